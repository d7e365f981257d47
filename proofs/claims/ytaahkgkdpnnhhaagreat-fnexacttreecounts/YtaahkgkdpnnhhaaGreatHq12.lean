import Derived.Test.YtaahkgkdpnnhhaaGreatHq11
set_option maxHeartbeats 9999999
set_option maxRecDepth 99999
set_option linter.all false
namespace Go.Proofs.YtaahkgkdpnnhhaaGreat
open Go.RowKit Fo
theorem aFN(f:fZ){b c:Nat}(h:b≠c)(d e:Nd):setN (setN f b d) c e=setN (setN f c e) b d:=by
 have:upd (upd f.nodes b (some d)) c (some e)=upd (upd f.nodes c (some e)) b (some d):=funext fun x=>by
  by_cases e1:x=b<;>by_cases e2:x=c<;>simp[upd,e1,e2]
  ·exact absurd (e1.symm.trans e2) h
  ·intro e;exact absurd e h
  ·intro e;exact absurd e.symm h
 unfold setN;simp only;rw[this]
theorem bE(f:fZ){b x:Nat}(d:Nd)(h:x≠b):(setN f b d).nodes x=f.nodes x:=aC _ _ h
theorem sR(f:fZ)(b:Nat)(d:Nd):(setN f b d).nodes b=some d:=aD _ _ _
theorem tW(a:Option Nat)(es junk vs:List E3)(v:Value)(W:World)(ha:∀g,a=some g→IsC W g (bX (es++junk)) 110)(hn:a=none→es=[]∧junk=[])(hv:Esl W v vs)(h20:es.length+vs.length≤20)(hm:es.length+junk.length≤maxLen)(h0:0<vs.length):
  ∃ua un uc W',(∀ty,(Builtin.append_ #[106,106] ty #[.slice (adr a) es.length (es.length+junk.length),v]).run Tryz.prog W=.ok (.slice ua un uc) W')∧zZ W W' a (.slice ua un uc) (es++vs):=by
 obtain⟨u,W',a',junk',h1,rfl,h3,h4,h5,h6⟩:=zM a es junk vs v W ha hn hv h20 hm;refine⟨_,_,_,W',h1,⟨⟨a',junk',by simp,h3,fun e=>?_,by simpa using h5⟩,h6⟩⟩;have:=(h4 e).2.1;rw[this]at h0;simp at h0
theorem rne{b c:Nat}(h:b≠c):cE b≠cE c∧cE b≠cC c∧cC b≠cE c∧cC b≠cC c:=by unfold cE cC;omega
theorem aHC{l:List E3}(h:0<l.length):l.take 1=[l.getD 0 e0]:=by
 cases l with
 | nil=>simp at h
 | cons a l=>rfl
theorem aLK(l:List E3):delE l 0=l.drop 1:=by simp[delE]
theorem aDL(W:World)(k v:ByteArray)(c:Int):(Instr.field 110 (.agg #[.string k,.string v,.int .i64 c]) 2).run Tryz.prog W=.ok (.int .i64 c) W:=by kernel_rfl
theorem aAL(l:List E3)(i:Nat):(l.drop i).getD 0 e0=l.getD i e0:=by simp[gD]
structure FlP(w:World)(ρ:Nat→Nat)(P:Nat)(A:Adr)(f:fZ)(J:List aR)(b c:Nat)(r:Option fZ)(K:Int)(e:Ending)(w':World):Prop where
 no:r=none→Pk 12 w ρ P f J e w'
 yes:∀g,r=some g→e=.returned (.tuple #[])∧∃ρ' A' J',Dn 12 (fun _=>True) w ρ P A f J w' ρ' A' g J'∧A'.φ b=A.φ b∧A'.φ c=A.φ c∧Sz (K+10) g
theorem zR{K:Int}(w:World)(ρ:Nat→Nat)(P:Nat)(A:Adr)(f:fZ)(J:List aR)(t H:Nat)(Pt:List Nat)(b h:Nat)(lo hi:OB)(es:List E3)(i c:Nat)(kk:Int)(ces:List E3)(q qc:Nat)(hSt:St w ρ P A f J)(hW:Wk f t H)(hp:aN f t H Pt b (h+1) lo hi)(hes:f.nodes b=some (2,es))(hi':i+1<es.length)(hc:c=kd es i)(hd:f.nodes c=some (kk,ces))(cc:cu f c=1)(hcl:ces.length=2)(hφ:A.φ b=some q)(hφc:A.φ c=some qc)(hz:Sz K f)(hK1:1≤K)(hK:K≤700000)(hJl:J.length≤600000)(htc:Tch b J)(htcc:Tch c J):
  Calls Tryz.prog 142 #[.pointer (some ⟨P,0,none⟩),.pointer (some ⟨q,0,none⟩),.int .i64 i,.pointer (some ⟨qc,0,none⟩)] w (FlP w ρ P A f J b c (fillNext f b i c) K):=by
 have hbs:=qW;have hfe:=aDL;obtain⟨i1,HI1⟩:=exH (i+1);have h10:=hz.ent b _ hes;simp only at h10;have hi1:i1<es.length:=by rw[HI1.out];exact hi'
 obtain⟨s,Hs⟩:=exH (kd es i1);have hsk:s∈kids (2,es):=by rw[Hs.out];exact aO hi1
 have hck:c∈kids (2,es):=by rw[hc];exact aO (by omega)
 obtain⟨⟨k',ses⟩,hds⟩:=hW.ic.kid_live hes hsk;obtain⟨es0,q1,e2,e3,e4,e5⟩:=(hp.ok hW.ok).1;rw[hes]at q1;cases q1;have hkk:k'=kk:=by
  have hOc:=(dK (hc▸hd)).1 (e5 i (by omega)).2;have hOs:=(dK (Hs.out▸hds)).1 (e5 i1 hi1).2;cases h with
  | zero=>have a1:=hOc.1;have a2:=hOs.1;simp only at a1 a2;omega
  | succ h=>have a1:=hOc.1;have a2:=hOs.1;simp only at a1 a2;omega
 subst hkk;have hs2:2≤ses.length:=by have:=(e5 i1 hi1).1;unfold sz at this;rw[←Hs.out,hds]at this;exact this
 have hs10:=hz.ent s _ hds;simp only at hs10;have hcs:c≠s:=fun e=>by
  rw[hc,Hs.out]at e;have:=dW (hW.ic.only (hc▸cc) hes (hc▸hck)).2.1 (by omega) hi1 e.symm;have:=HI1.out;omega
 have hbs':b≠s:=fun e=>hW.ic.not_self hes (e▸hsk);have hbc:b≠c:=fun e=>hW.ic.not_self hes (e▸hck);have hbl:b<f.cur.length:=hz.lt b _ hes;have hcll:c<f.cur.length:=hz.lt c _ hd;have hsl:s<f.cur.length:=hz.lt s _ hds;have hcps:(es.getD i1 e0).2.2=(s:Int):=by
  have h1:=hW.ic.child_pos hes hi1;rw[Hs.out];unfold kd ch;omega
 obtain⟨q',junk,e1,hρq,hρa,hN⟩:=hSt.getNode hes;rw[hφ]at e1;cases e1;obtain⟨g,hg⟩:=hN.arrOf (by simp only;omega);rw[hg]at hN;obtain⟨qs,junks,hφs,hρs,hρas,hNs⟩:=hSt.getNode hds;obtain⟨ja,jp,jj,hR,hJ⟩:=id hSt;have m3:=hR.cells.m3;have c1:w.cell? ⟨q,1,none⟩=some (.slice (some ⟨g,0,none⟩) es.length (es.length+junk.length)):=by rw[hN.box.cell];rfl
 have c2:w.cell? ⟨g,i1*3+2,none⟩=some (.int .i64 s):=by
  have:=(bH (hN.arr g rfl).1 (i:=i1) (by simp;omega)).2.2
  rw[gD,List.getElem?_append_left hi1,←gD]at this;rw[hcps]at this;exact this
 have hlk:∀n,(Instr.lookup 68 (.map (some A.m)) (.int .i64 s) false).run Tryz.prog (w.drewN n)=.ok (.pointer (some ⟨qs,0,none⟩)) (w.drewN n):=fun n=>by
  have:=(hR.hm.of (w':=w.drewN n) rfl).lookup s (by have:=hz.n512;omega)
  rw[hφs]at this;simpa only[eY,Option.map_some] using this
 have hwr:IntKind.i64.wrap ((i:Int)+1)=(i1:Int):=by
  have:=HI1.out
  rw[IntWalk.i64_in _ ⟨by omega,by omega⟩];omega
 have hii:((i1:Nat):Int) <(es.length:Int):=by omega
 have HF:Hid (fillNext f b i c=if 2<ses.length then
   match shadow f (.ent b i1)with
   | none=>none
   | some (k,s)=>some (moveF k b c s (Fo.look k c).1 ((Fo.look k c).2++(Fo.look k s).2.take 1) ((Fo.look k s).2.drop 1) ((Fo.look k b).2.set i1 (ky (Fo.look k s).2 1,((Fo.look k b).2.getD i1 e0).2)))
  else some (mergeF f b c s k' (ces++ses) (delE es i1))):=by
  show fillNext f b i c=_
  unfold fillNext;rw[aE hes];simp only;rw[←HI1.out,←Hs.out,aE hds,aE hd];rfl
 have HC:=aA (aI hc hcl);have HCP:=aA hcps;clear hc hcl hcps;go_enter Tryz.func142,Tryz.ntmps142;go_wp2;go_quiet (fail);clear hlk c2 m3;by_cases hsp:2<ses.length
 ·have hdf:decide (2<ses.length)=true:=by simpa using hsp
  have HSP:=aA hsp;clear hsp c1;go_wp2_with fail;refine(fP qs (k',ses) _ junks _ (hNs.below (below_drewN _ _))).mono ?_;rintro e w4 ⟨rfl,hw4⟩;rw[hw4];clear hw4 w4;have hLok:dQ f (.ent b i1):=⟨hbl,es,hes,hi1⟩;have hLat:gR A (.ent b i1) ⟨g,i1*3+2,none⟩:=⟨g,hg,rfl⟩;go_wp2_with fail;refine(iE _ ρ P A f J (.ent b i1) ⟨g,i1*3+2,none⟩ (hSt.below (below_drewN _ _)) hW.ic hz hK1 (by omega) (by omega) hLok hLat (fun b' i' e=>by cases e;exact htc)).mono ?_;intro e w4 hT;cases hsh:shadow f (.ent b i1)with
  | none=>
   obtain⟨rfl,ρ4,A4,g4,J4,a1,a2,a3⟩:=hT.no hsh;have hno:fillNext f b i c=none:=by rw[HF.out,if_pos HSP.out,hsh]
   exact⟨rfl,fun _=>⟨rfl,ρ4,A4,g4,J4,a1,(Mv.of_below (below_drewN _ _)).trans a2 (fun _ _ e=>e),a3.up (by omega)⟩,fun g hgc=>by rw[hno]at hgc;cases hgc⟩
  | some gc=>
   obtain⟨f4,s4⟩:=gc;obtain⟨ρ4,A4,J4,qs4,rfl,hφ4,hDn0,hT4,hz4⟩:=hT.yes f4 s4 hsh;have hDn:Dn 12 (fun x=>x=s4∨x=bJ f (.ent b i1)) w ρ P A f J w4 ρ4 A4 f4 J4:=⟨hDn0.st,(Mv.of_below (below_drewN _ _)).trans hDn0.mv (fun _ _ e=>e),hDn0.js,hDn0.ad⟩;clear hDn0 hT;obtain⟨w2,p2,p3,⟨es2,m1,m2,m3,m4⟩,m5,m6,m7,m8,m9⟩:=hW.shadow_ent hp hes hi1 hsh;obtain⟨s1,s2,s3⟩:=hW.shadow_sib hp hes hi1 hsh;rw[←Hs.out]at m5 s1 s2;obtain⟨x1,x2,x3⟩:=s2 _ hck hcs;have hd4:f4.nodes c=some (k',ces):=by rw[x1];exact hd
   have hds4:f4.nodes s4=some (k',ses):=by rw[m5];exact hds
   have hs4k:s4∈kids (2,es2):=by rw[←m4];exact aO (by rw[m2];exact hi1)
   have hbs4:b≠s4:=fun e=>w2.ic.not_self m1 (e▸hs4k);have hkc:kd es2 i=c:=by rw[HC.out.1];unfold kd;rw[(s3 es2 m1 i).2 (by have:=HI1.out;omega)]
   have hcs4:c≠s4:=fun e=>by
    rw[←hkc,←m4]at e;have hck2:kd es2 i∈kids (2,es2):=aO (by rw[m2];omega);have:=dW (w2.ic.only (by rw[hkc,x2];exact cc) m1 hck2).2.1 (by rw[m2];omega) (by rw[m2];exact hi1) e.symm;have:=HI1.out;omega
   have hgs:bJ f (.ent b i1)=s:=by simp only[bJ,aE hes];exact Hs.out.symm
   have hXb:¬(b=s4∨b=bJ f (.ent b i1)):=fun e=>by rw[hgs]at e;rcases e with e | e;exact hbs4 e;exact hbs' e
   have hXc:¬(c=s4∨c=bJ f (.ent b i1)):=fun e=>by rw[hgs]at e;rcases e with e | e;exact hcs4 e;exact hcs e
   have hφb4:A4.φ b=some q:=by rw[hDn.ad.φ b hXb];exact hφ
   have hαb4:A4.α b=some g:=by rw[hDn.ad.α b hXb];exact hg
   have hφc4:A4.φ c=some qc:=by rw[hDn.ad.φ c hXc];exact hφc
   have HF2:Hid (fillNext f b i c=some (moveF f4 b c s4 k' (ces++ses.take 1) (ses.drop 1) (es2.set i1 (ky ses 1,(es2.getD i1 e0).2)))):=by
    show fillNext f b i c=_
    rw[HF.out,if_pos HSP.out,hsh];simp only[aE hd4,aE hds4,aE m1]
   clear HF;obtain⟨q4',junks4,e1,hρs4,hρas4,hNs4⟩:=hDn.st.getNode hds4;rw[hφ4]at e1;cases e1;obtain⟨gs,hgs4⟩:=hNs4.arrOf (by simp only;omega);rw[hgs4]at hNs4;obtain⟨qc',junkc,e1,hρc4,hρac4,hNc4⟩:=hDn.st.getNode hd4;rw[hφc4]at e1;cases e1;obtain⟨ac,hac⟩:∃ac,ac=A4.α c:=⟨_,rfl⟩;rw[←hac]at hNc4;have HAC:=aA hac;clear hac;have hq0:w4.drew.cell? ⟨qc,1,none⟩=some (.slice (adr ac) ces.length (ces.length+junkc.length)):=by show w4.cell? _=_;rw[hNc4.box.cell];rfl
   have HM:=aA (aI m2 (aI m5 (aI m6 m7)));clear m2 m5 m6 m7 hdf;go_wp2;refine aZ (fun W=>W.cell? ⟨qc,1,none⟩=some (.slice (adr ac) ces.length (ces.length+junkc.length))) 11 (by kernel_rfl) ?_;refine tJ 0 33 (.pointer (some ⟨qc,0,none⟩)) rfl hq0 ?_ (fun w' hw=>by obtain m1:=hw;go_simp;try rfl);simp only[Act.put,sB,sZ,sS];refine tJ 1 34 (.pointer (some ⟨qc,0,none⟩)) rfl hq0 ?_ (fun w' hw=>by obtain m1:=hw;go_simp;try rfl);simp only[Act.put,sB,sZ,sS];refine tJ 2 35 (.pointer (some ⟨qc,0,none⟩)) rfl hq0 ?_ (fun w' hw=>by obtain m1:=hw;go_simp;try rfl);simp only[Act.put,sB,sZ,sS];refine tJ 3 36 (.pointer (some ⟨qc,1,none⟩)) rfl hq0 ?_ (fun w' hw=>by obtain m1:=hw;go_simp;try rfl);simp only[Act.put,sB,sZ,sS];refine tJ 4 37 (.slice (adr ac) ces.length (ces.length+junkc.length)) rfl hq0 ?_ (fun w' hw=>by obtain m1:=hw;go_simp;try rfl);simp only[Act.put,sB,sZ,sS];refine tJ 5 38 (.pointer (some ⟨qs4,0,none⟩)) rfl hq0 ?_ (fun w' hw=>by obtain m1:=hw;go_simp;try rfl);simp only[Act.put,sB,sZ,sS];have hBd:Bl w4 w4.drew:=(bQ w4.heap.size w4).drew;refine oE 6 rfl fun K2 hK2=>?_;go_simp;refine(gJ qs4 gs k' ses junks4 0 w4.drew (hNs4.below hBd) hs10 (by omega)).mono ?_;rintro e w5 ⟨rfl,⟨junks5,hNs5⟩,hF5⟩;have hF5':Frm (fun x=>x=qs4∨A4.α s4=some x) w4 w5:=(Frm.of_below hBd).trans (hF5.wide fun x _ e=>by rcases e with e | e;exact .inl e;right;rw[hgs4,e]);rw[aLK]at hNs5;obtain⟨hS5,hM5⟩:=hDn.st.nodeSame hds4 hφ4 hF5' (by rw[hgs4];exact hNs5);obtain⟨r1,r2,r3,r4⟩:=rne hcs4;have hS5r:∀x,x=qs4∨x=gs→ρ4 x=cE s4∨ρ4 x=cC s4:=fun x e=>by
    rcases e with e | e<;>rw[e]
    ·exact .inl hρs4
    ·exact .inr (hρas4 gs hgs4)
   have hNc5:aM w5 qc (k',ces) ac junkc:=(hNc4.below hBd).frm hF5 (fun e=>by
     rcases hS5r qc e with e | e
     ·exact r1 (hρc4.symm.trans e)
     ·exact r2 (hρc4.symm.trans e)) (fun x hx e=>by
     have hx':=hρac4 x (by rw[←HAC.out];exact hx);rcases hS5r x e with e | e
     ·exact r3 (hx'.symm.trans e)
     ·exact r4 (hx'.symm.trans e))
   have hq5:w5.cell? ⟨qc,1,none⟩=some (.slice (adr ac) ces.length (ces.length+junkc.length)):=by rw[hNc5.box.cell];rfl
   obtain⟨k0,v0,c0,HE0⟩:∃k0 v0 c0,Hid (ses.getD 0 e0=(k0,v0,c0)):=⟨_,_,_,rfl⟩;rw[show aBO (ses.getD 0 e0)=.agg #[.string k0,.string v0,.int .i64 c0] by rw[HE0.out];rfl];refine hK2 _ _ (fun _=>hq5) ?_;clear hK2 K2 hq0;refine oE 7 rfl fun K2 hK2=>?_;go_simp;obtain⟨G6,HG6⟩:=exH (w5.heap.size);obtain⟨W6,HW6⟩:=exH (w5.alloc (.cells #[.string k0,.string v0,.int .i64 c0] 110));rw[←HW6.out,←HG6.out];have hN6:IsC W6 G6 (bX [(k0,v0,c0)]) 110:=by rw[HW6.out,HG6.out];exact IsC.new _ _ _
   have hB6:Bl w5 W6:=by rw[HW6.out];exact(bQ w5.heap.size w5).alloc (nR _) _
   have hNc6:=hNc5.below hB6;have hq6:W6.cell? ⟨qc,1,none⟩=some (.slice (adr ac) ces.length (ces.length+junkc.length)):=by rw[hNc6.box.cell];rfl
   refine hK2 _ _ (fun _=>hq6) ?_;clear hK2 K2 hq5;have hS6:=hS5.below hB6;obtain⟨ua,un,uc,W7,hap,hIns⟩:=tW ac ces junkc [(k0,v0,c0)] (.slice (some ⟨G6,0,none⟩) 1 1) W6 (fun x e=>(hNc6.arr x e).1) hNc6.nil (.inr ⟨G6,0,1,[(k0,v0,c0)],rfl,hN6,by simp,by simp⟩) (by have:=HC.out.2;simp;omega) hNc6.small (by simp);refine oE 8 rfl fun K2 hK2=>?_;refine mR (.tmp 37) (.tmp 40) _ _ (by rfl) (.slice (adr ac) ces.length (ces.length+junkc.length)) (.slice (some ⟨G6,0,none⟩) 1 1) (by rfl) (by rfl) (.slice ua un uc) W7 (hap _) ?_;have hq7:W7.cell? ⟨qc,1,none⟩=some (.slice (adr ac) ces.length (ces.length+junkc.length)):=(dA (hIns.frm.block qc hNc6.box.lt (fun e=>(hNc6.arr qc e).2 rfl)) 1).trans hq6;have hd5:(setN f4 s4 (k',ses.drop 1)).nodes c=some (k',ces):=(bE _ _ hcs4).trans hd4;obtain⟨a',-,hS8,hM8,-,hfz8⟩:=hS6.ins (w1:=W7) (u:=.slice ua un uc) hd5 hφc4 (by rw[←HAC.out];exact hIns);refine hK2 _ _ (fun _=>hq7) ?_;clear hK2 K2 hq6;simp only[Act.put,sB,sZ,sS];refine oE 9 rfl fun K2 hK2=>?_;go_simp;refine hK2 _ _ (fun _=>hq7) ?_;clear hK2 K2;refine oE 10 rfl fun K2 hK2=>?_;go_simp;refine hK2 _ _ (fun _=>hq7) ?_;clear hK2 K2;refine oE 11 rfl fun K2 hK2=>?_;go_simp;refine hK2 _ _ (fun q=>absurd rfl q) ?_;clear hK2 K2 hq7 hfz8;refine aV (by kernel_rfl) ?_ _;have hMv8:Mv (fun _=>False) w ρ (W7.setCell ⟨qc,1,none⟩ (.slice ua un uc)) (jB ρ4 a' c):=((hDn.mv.trans hM5 (fun _ _ e=>e)).trans (Mv.of_below hB6) (fun _ _ e=>e)).trans hM8 (fun _ _ e=>e);generalize W7.setCell ⟨qc,1,none⟩ (.slice ua un uc)=W8 at *;obtain⟨f8,Hf8⟩:=exH (setN (setN f4 s4 (k',ses.drop 1)) c (k',ces++[(k0,v0,c0)]));rw[←Hf8.out]at hS8;have hs8:f8.nodes s4=some (k',ses.drop 1):=by rw[Hf8.out,bE _ _ (Ne.symm hcs4)];exact sR _ _ _
   have hb8:f8.nodes b=some (2,es2):=by rw[Hf8.out,bE _ _ hbc,bE _ _ hbs4];exact m1
   obtain⟨q4',junks8,e1,-,-,hNs8⟩:=hS8.getNode hs8;rw[show(dL A4 c a').φ s4=some qs4 from hφ4]at e1;cases e1;have hα8:(dL A4 c a').α s4=some gs:=(aC _ _ (Ne.symm hcs4)).trans hgs4;obtain⟨n5,Hn5⟩:∃n5,Hid ((ses.drop 1).length=n5):=⟨_,rfl⟩;have hn5:0<n5:=by have:=Hn5.out;simp at this;omega
   obtain⟨t1,t2⟩:=hNs8.first hα8 Hn5.out hn5;have ek:ky (ses.drop 1) 0=ky ses 1:=by unfold ky;rw[aAL]
   simp only[ek]at t2;obtain⟨y,HY⟩:=exH (ky ses 1);rw[←HY.out]at t2;obtain⟨q',junkb8,e1,-,-,hNb8⟩:=hS8.getNode hb8;rw[show(dL A4 c a').φ b=some q from hφb4]at e1;cases e1;have hαb8:(dL A4 c a').α b=some g:=(aC _ _ hbc).trans hαb4;rw[hαb8]at hNb8;have hi2:i1<es2.length:=by rw[HM.out.1];exact hi1
   have tk:=(bH (hNb8.arr g rfl).1 (i:=i1) (by simp;omega)).1;have tf:=(hNb8.arr g rfl).1.frozen (i1*3);have hset:=hNb8.setc (i:=i1) (j:=0) (v:=.string y) (e':=(y,(es2.getD i1 e0).2)) hi2 (by omega) (by simp[aJ]);rw[Nat.add_zero]at hset;obtain⟨hS9,hM9⟩:=hS8.nodeSame (w':=W8.setCell ⟨g,i1*3,none⟩ (.string y)) hb8 hφb4 (Frm.set W8 (p:=⟨g,i1*3,none⟩) (.inr hαb8) _) (by rw[hαb8];exact hset);have hfin:setN f8 b (2,es2.set i1 (y,(es2.getD i1 e0).2))=moveF f4 b c s4 k' (ces++ses.take 1) (ses.drop 1) (es2.set i1 (ky ses 1,(es2.getD i1 e0).2)):=by
    rw[Hf8.out,HY.out,aFN _ (Ne.symm hcs4),aHC (by omega),HE0.out];rfl
   rw[hfin]at hS9;have hJ9:JS 12 f J (moveF f4 b c s4 k' (ces++ses.take 1) (ses.drop 1) (es2.set i1 (ky ses 1,(es2.getD i1 e0).2))) J4:=by
    refine(((hDn.js.trans (JS.setN _ (hDn.js.tch c htcc))).trans (JS.setN _ hT4)).trans (JS.setN _ (hDn.js.tch b htc))).up (by omega)
   have hcl4:c<f4.cur.length:=hz4.lt c _ hd4;have hsl4:s4<f4.cur.length:=hz4.lt s4 _ hds4;have hbl4:b<f4.cur.length:=hz4.lt b _ m1;have hz9:Sz (K+10) (moveF f4 b c s4 k' (ces++ses.take 1) (ses.drop 1) (es2.set i1 (ky ses 1,(es2.getD i1 e0).2))):=
    ((hz4.setN hcl4 (by have:=HC.out.2;simp;omega)).setN hsl4 (by simp;omega)).setN hbl4 (by have:=HM.out.1;simp;omega)
   have HR:=aA (show Dn 12 (fun _=>True) w ρ P A f J (W8.setCell ⟨g,i1*3,none⟩ (.string y)) (jB ρ4 a' c) (dL A4 c a') (moveF f4 b c s4 k' (ces++ses.take 1) (ses.drop 1) (es2.set i1 (ky ses 1,(es2.getD i1 e0).2))) J4∧Sz (K+10) (moveF f4 b c s4 k' (ces++ses.take 1) (ses.drop 1) (es2.set i1 (ky ses 1,(es2.getD i1 e0).2)))from⟨⟨hS9,hMv8.trans hM9 (fun _ _ e=>e),hJ9,(hDn.ad.trans (AdS.arr A4 c a')).up fun _ _=>trivial⟩,hz9⟩);clear hS9 hM9 hJ9 hz9 hfin hset hNb8 hNs8 hS8 hMv8 hM8 hS6 hS5 hM5 hIns hNc6 hNc5 hN6 hDn;go_wp2;first | go_end0 | refine bodyPost_ret (results_none rfl _ _ _) rfl ?_
   obtain⟨hDf,hzf⟩:=HR.out;refine⟨fun q=>(by rw[HF2.out]at q;cases q),fun g' hg'=>?_⟩;rw[HF2.out]at hg';cases hg';exact⟨rfl,_,_,J4,hDf,hφb4.trans hφ.symm,hφc4.trans hφc.symm,hzf⟩
 ·have hdf:decide (2<ses.length)=false:=by simpa using hsp
  have HSP:=aA hsp;clear hsp c1;go_wp2_with fail;refine(fP qs (k',ses) _ junks _ (hNs.below (below_drewN _ _))).mono ?_;rintro e w4 ⟨rfl,hw4⟩;have hB4:Bl w w4:=by rw[hw4];exact below_drewN _ _
  clear hw4;have hS4:=hSt.below hB4;have hNs4:=hNs.below hB4;obtain⟨az,has⟩:∃az,az=A.α s:=⟨_,rfl⟩;rw[←has]at hNs4;obtain⟨qc',junkc,e1,hρc4,hρac4,hNc4⟩:=hS4.getNode hd;rw[hφc]at e1;cases e1;obtain⟨ac,hac⟩:∃ac,ac=A.α c:=⟨_,rfl⟩;rw[←hac]at hNc4;have HAC:=aA hac;clear hac has hdf;have hq0:w4.drew.cell? ⟨qc,1,none⟩=some (.slice (adr ac) ces.length (ces.length+junkc.length))∧w4.drew.cell? ⟨qs,1,none⟩=some (.slice (adr az) ses.length (ses.length+junks.length)):=⟨by show w4.cell? _=_;rw[hNc4.box.cell];rfl,by show w4.cell? _=_;rw[hNs4.box.cell];rfl⟩;go_wp2;refine aZ (fun W=>W.cell? ⟨qc,1,none⟩=some (.slice (adr ac) ces.length (ces.length+junkc.length))∧W.cell? ⟨qs,1,none⟩=some (.slice (adr az) ses.length (ses.length+junks.length))) 12 (by kernel_rfl) ?_;refine tJ 0 54 (.pointer (some ⟨qc,0,none⟩)) rfl hq0 ?_;simp only[Act.put,sB,sZ,sS];refine tJ 1 55 (.pointer (some ⟨qc,0,none⟩)) rfl hq0 ?_;simp only[Act.put,sB,sZ,sS];refine tJ 2 56 (.pointer (some ⟨qc,0,none⟩)) rfl hq0 ?_;simp only[Act.put,sB,sZ,sS];refine tJ 3 57 (.pointer (some ⟨qc,1,none⟩)) rfl hq0 ?_;simp only[Act.put,sB,sZ,sS];refine tJ 4 58 (.slice (adr ac) ces.length (ces.length+junkc.length)) rfl hq0 ?_;simp only[Act.put,sB,sZ,sS];refine tJ 5 59 (.pointer (some ⟨qs,0,none⟩)) rfl hq0 ?_;simp only[Act.put,sB,sZ,sS];refine tJ 6 60 (.pointer (some ⟨qs,0,none⟩)) rfl hq0 ?_;simp only[Act.put,sB,sZ,sS];refine tJ 7 61 (.pointer (some ⟨qs,1,none⟩)) rfl hq0 ?_;simp only[Act.put,sB,sZ,sS];refine tJ 8 62 (.slice (adr az) ses.length (ses.length+junks.length)) rfl hq0 ?_;simp only[Act.put,sB,sZ,sS];have hBd:Bl w4 w4.drew:=(bQ w4.heap.size w4).drew;have hNc5:=hNc4.below hBd;have hNs5:=hNs4.below hBd;have hS5:=hS4.below hBd;have hac5:∀x,ac=some x→x≠qs:=fun x e e'=>by
   have h1:=(hNc5.arr x e).1;rw[e']at h1;exact IsC.ne h1 hNs5.box (by decide) rfl
  obtain⟨ua,un,uc,W7,hap,hIns⟩:=tW ac ces junkc ses (.slice (adr az) ses.length (ses.length+junks.length)) w4.drew (fun x e=>(hNc5.arr x e).1) hNc5.nil hNs5.esl (by have:=HC.out.2;omega) hNc5.small (by omega);refine oE 9 rfl fun K2 hK2=>?_;refine mR (.tmp 58) (.tmp 62) _ _ (by rfl) (.slice (adr ac) ces.length (ces.length+junkc.length)) (.slice (adr az) ses.length (ses.length+junks.length)) (by rfl) (by rfl) (.slice ua un uc) W7 (hap _) ?_;have hq7:W7.cell? ⟨qc,1,none⟩=some (.slice (adr ac) ces.length (ces.length+junkc.length))∧W7.cell? ⟨qs,1,none⟩=some (.slice (adr az) ses.length (ses.length+junks.length)):=⟨(dA (hIns.frm.block qc hNc5.box.lt (fun e=>(hNc5.arr qc e).2 rfl)) 1).trans hq0.1,(dA (hIns.frm.block qs hNs5.box.lt (fun e=>hac5 qs e rfl)) 1).trans hq0.2⟩;obtain⟨a',-,hS8,hM8,-,hfz8⟩:=hS5.ins (w1:=W7) (u:=.slice ua un uc) hd hφc (by rw[←HAC.out];exact hIns);refine hK2 _ _ (fun _=>hq7) ?_;clear hK2 K2 hq0;simp only[Act.put,sB,sZ,sS];refine oE 10 rfl fun K2 hK2=>?_;go_simp;refine hK2 _ _ (fun _=>hq7) ?_;clear hK2 K2;refine oE 11 rfl fun K2 hK2=>?_;go_simp;refine hK2 _ _ (fun _=>hq7) ?_;clear hK2 K2;obtain⟨hq7a,-⟩:=hq7;refine oE 12 rfl fun K2 hK2=>?_;go_simp;refine hK2 _ _ (fun q=>absurd rfl q) ?_;clear hK2 K2 hq7a hfz8;refine aV (by kernel_rfl) ?_ _;have hMv8:Mv (fun _=>False) w ρ (W7.setCell ⟨qc,1,none⟩ (.slice ua un uc)) (jB ρ a' c):=((Mv.of_below hB4).trans (Mv.of_below hBd) (fun _ _ e=>e)).trans hM8 (fun _ _ e=>e);generalize W7.setCell ⟨qc,1,none⟩ (.slice ua un uc)=W8 at *;have hb8:(setN f c (k',ces++ses)).nodes b=some (2,es):=(bE _ _ hbc).trans hes;obtain⟨q',junkb8,e1,-,-,hNb8⟩:=hS8.getNode hb8;rw[show(dL A c a').φ b=some q from hφ]at e1;cases e1;have hαb8:(dL A c a').α b=some g:=(aC _ _ hbc).trans hg;rw[hαb8]at hNb8;go_wp2_with fail;refine(gJ q g 2 es junkb8 i1 W8 hNb8 h10 hi1).mono ?_;rintro e w9 ⟨rfl,⟨junkb9,hNb9⟩,hF9⟩;obtain⟨k1,v1,HE1⟩:∃k1 v1,Hid (es.getD i1 e0=(k1,v1,(s:Int))):=⟨(es.getD i1 e0).1,(es.getD i1 e0).2.1,by show _=_;rw[←HCP.out]⟩;rw[show aBO (es.getD i1 e0)=.agg #[.string k1,.string v1,.int .i64 s] by rw[HE1.out];rfl];obtain⟨hS9,hM9⟩:=hS8.nodeSame hb8 hφ (hF9.wide fun x _ e=>by rcases e with e | e;exact .inl e;right;rw[hαb8,e]) (by rw[hαb8];exact hNb9);have hds9:(setN (setN f c (k',ces++ses)) b (2,delE es i1)).nodes s=some (k',ses):=((bE _ _ (Ne.symm hbs')).trans (bE _ _ (Ne.symm hcs))).trans hds;have hz9:Sz K (setN (setN f c (k',ces++ses)) b (2,delE es i1)):=(hz.setN hcll (by have:=HC.out.2;have:=HSP.out;simp;omega)).setN hbl (by have:=bI es i1 hi1;simp only;omega);have hcu9:cu (setN (setN f c (k',ces++ses)) b (2,delE es i1)) s=cu f s:=rfl;have hJ9:JS 0 f J (setN (setN f c (k',ces++ses)) b (2,delE es i1)) J:=(JS.setN _ htcc).trans (JS.setN _ htc);clear hNb9 hNb8 hF9;go_wp2_with fail;refine(oG w9 (jB ρ a' c) P (dL A c a') (setN (setN f c (k',ces++ses)) b (2,delE es i1)) J s (k',ses) hS9 hz9 (by omega) (by omega) hds9 (by rw[hcu9];have:=hW.ic.cu_pos hds;omega) (fun x hx=>hW.ic.kid_lt hds hx) (aDJ hW.ic hds)).mono ?_;rintro e w10 ⟨rfl,ρ10,J10,hS10,hM10,hJ10,hz10⟩;have hA10:AdS (fun _=>True) A (if cu (setN (setN f c (k',ces++ses)) b (2,delE es i1)) s=1 then gO (dL A c a') s else dL A c a')∧(if cu (setN (setN f c (k',ces++ses)) b (2,delE es i1)) s=1 then gO (dL A c a') s else dL A c a').φ b=A.φ b∧(if cu (setN (setN f c (k',ces++ses)) b (2,delE es i1)) s=1 then gO (dL A c a') s else dL A c a').φ c=A.φ c:=by
   split
   ·exact⟨((AdS.arr A c a').trans (AdS.del _ s)).up fun _ _=>trivial,aC _ _ hbs',aC _ _ hcs⟩
   ·exact⟨(AdS.arr A c a').top,rfl,rfl⟩
  generalize (if cu (setN (setN f c (k',ces++ses)) b (2,delE es i1)) s=1 then gO (dL A c a') s else dL A c a')=A10 at *;have HF2:Hid (fillNext f b i c=some (letGo (setN (setN f c (k',ces++ses)) b (2,delE es i1)) s)):=by
   show fillNext f b i c=_
   rw[HF.out,if_neg HSP.out];rfl
  clear HF;have HR:=aA (show Dn 12 (fun _=>True) w ρ P A f J w10 ρ10 A10 (letGo (setN (setN f c (k',ces++ses)) b (2,delE es i1)) s) J10∧Sz (K+10) (letGo (setN (setN f c (k',ces++ses)) b (2,delE es i1)) s)from⟨⟨hS10,(hMv8.trans hM9 (fun _ _ e=>e)).trans hM10 (fun _ _ e=>e),(hJ9.trans hJ10).up (by omega),hA10.1⟩,hz10⟩);have HA:=aA hA10.2;clear hA10 hS10 hM10 hJ10 hz10 hS9 hM9 hS8 hM8 hMv8;go_wp2;first | go_end0 | refine bodyPost_ret (results_none rfl _ _ _) rfl ?_
  obtain⟨hDf,hzf⟩:=HR.out;refine⟨fun q=>(by rw[HF2.out]at q;cases q),fun g' hg'=>?_⟩;rw[HF2.out]at hg';cases hg';exact⟨rfl,_,_,J10,hDf,HA.out.1,HA.out.2,hzf⟩
