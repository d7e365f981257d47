import Derived.Test.YtaahkgkdpnnhhaaGreatHq10
set_option maxHeartbeats 9999999
set_option maxRecDepth 99999
set_option linter.all false
namespace Go.Proofs.YtaahkgkdpnnhhaaGreat
open Go.RowKit Fo
variable{b c:Nat}
theorem aEQ(f:fZ)(h:b≠c)(d e:Nd):setN (setN f b d) c e=setN (setN f c e) b d:=by
 have:upd (upd f.nodes b (some d)) c (some e)=upd (upd f.nodes c (some e)) b (some d):=funext fun x=>by
  by_cases e1:x=b<;>by_cases e2:x=c<;>simp[upd,e1,e2]
  ·exact absurd (e1.symm.trans e2) h
  ·intro e;exact absurd e h
  ·intro e;exact absurd e.symm h
 unfold setN;simp only;rw[this]
theorem bB(f:fZ){x:Nat}(d:Nd)(h:x≠b):(setN f b d).nodes x=f.nodes x:=aC _ _ h
theorem sQ(f:fZ)(b:Nat)(d:Nd):(setN f b d).nodes b=some d:=aD _ _ _
theorem qY(a:Option Nat)(es junk vs:List E3)(v:Value)(W:World)(ha:∀g,a=some g→IsC W g (bW (es++junk)) 110)(hn:a=none→es=[]∧junk=[])(hv:Esl W v vs)(Ah:es.length+vs.length≤20)(hm:es.length+junk.length≤maxLen)(h0:0<vs.length):
  ∃ua un uc W',(∀ty,(Builtin.append_ #[106,106] ty #[.slice (adr a) es.length (es.length+junk.length),v]).run Tryz.prog W=.ok (.slice ua un uc) W')∧xO W W' a (.slice ua un uc) (es++vs):=by
 obtain⟨u,W',a',junk',h1,rfl,h3,h4,h5,h6⟩:=xQ a es junk vs v W ha hn hv Ah hm;refine⟨_,_,_,W',h1,⟨⟨a',junk',by simp,h3,fun e=>?_,by simpa using h5⟩,h6⟩⟩;have:=(h4 e).2.1;rw[this]at h0;simp at h0
theorem rne(h:b≠c):cE b≠cE c∧cE b≠cB c∧cB b≠cE c∧cB b≠cB c:=by unfold cE cB;omega
theorem aHZ{l:List E3}(h:0<l.length):l.take 1=[l.getD 0 e0]:=by
 cases l with
 | nil=>simp at h
 | cons a l=>rfl
theorem aLE(l:List E3):delE l 0=l.drop 1:=by simp[delE]
theorem aCI(W:World)(k v:ByteArray)(c:Int):(Instr.field 110 (.agg #[.string k,.string v,.int .i64 c]) 2).run Tryz.prog W=.ok (.int .i64 c) W:=by kernel_rfl
theorem aAR(l:List E3)(i:Nat):(l.drop i).getD 0 e0=l.getD i e0:=by simp[gD]
structure FlP(w:World)(ρ:Nat→Nat)(P:Nat)(A:Adr)(f:fZ)(J:List aQ)(b c:Nat)(r:Option fZ)(K:Int)(e:Ending)(w':World):Prop where
 no:r=none→Pk 12 w ρ P f J e w'
 yes:∀g,r=some g→e=.returned (.tuple #[])∧∃ρ' A' J',Dn 12 (fun _=>True) w ρ P A f J w' ρ' A' g J'∧A'.φ b=A.φ b∧A'.φ c=A.φ c∧Sz (K+10) g
theorem yJ{K:Int}(w:World)(ρ:Nat→Nat)(P:Nat)(A:Adr)(f:fZ)(J:List aQ)(t H:Nat)(Pt:List Nat)(b h:Nat)(lo hi:OB)(es:List E3)(i c:Nat)(kk:Int)(ces:List E3)(q qc:Nat)(sd:St w ρ P A f J)(hW:Wk f t H)(hp:aN f t H Pt b (h+1) lo hi)(af:f.nodes b=some (2,es))(am:i+1<es.length)(hc:c=kd es i)(hd:f.nodes c=some (kk,ces))(cc:cu f c=1)(au:ces.length=2)(hφ:A.φ b=some q)(CZ:A.φ c=some qc)(hz:Sz K f)(td:1≤K)(hK:K≤700000)(kz:J.length≤600000)(qw:Tch b J)(Eg:Tch c J):
  Calls Tryz.prog 142 #[.pointer (some ⟨P,0,none⟩),.pointer (some ⟨q,0,none⟩),.int .i64 i,.pointer (some ⟨qc,0,none⟩)] w (FlP w ρ P A f J b c (fillNext f b i c) K):=by
 have lk:=qV;have Jc:=aCI;obtain⟨i1,r9⟩:=exH (i+1);have ft:=hz.ent b _ af;simp only at ft;have je:i1<es.length:=by rw[r9.out];exact am
 obtain⟨s,Hs⟩:=exH (kd es i1);have tr:s∈kids (2,es):=by rw[Hs.out];exact aP je
 have fh:c∈kids (2,es):=by rw[hc];exact aP (by omega)
 obtain⟨⟨k',ses⟩,iv⟩:=hW.ic.kid_live af tr;obtain⟨es0,q1,e2,e3,e4,e5⟩:=(hp.ok hW.ok).1;rw[af]at q1;cases q1;have pd:k'=kk:=by
  have BN:=(dN (hc▸hd)).1 (e5 i (by omega)).2;have Am:=(dN (Hs.out▸iv)).1 (e5 i1 je).2;cases h with
  | zero=>have a1:=BN.1;have a2:=Am.1;simp only at a1 a2;omega
  | succ h=>have a1:=BN.1;have a2:=Am.1;simp only at a1 a2;omega
 subst pd;have rq:2≤ses.length:=by have:=(e5 i1 je).1;unfold sz at this;rw[←Hs.out,iv]at this;exact this
 have C3:=hz.ent s _ iv;simp only at C3;have g8:c≠s:=fun e=>by
  rw[hc,Hs.out]at e;have:=dY (hW.ic.only (hc▸cc) af (hc▸fh)).2.1 (by omega) je e.symm;have:=r9.out;omega
 have Ba:b≠s:=fun e=>hW.ic.not_self af (e▸tr);have ms:b≠c:=fun e=>hW.ic.not_self af (e▸fh);have d5:b<f.cur.length:=hz.lt b _ af;have JL:c<f.cur.length:=hz.lt c _ hd;have dw:s<f.cur.length:=hz.lt s _ iv;have Bc:(es.getD i1 e0).2.2=(s:Int):=by
  have h1:=hW.ic.child_pos af je;rw[Hs.out];unfold kd ch;omega
 obtain⟨q',junk,e1,wn,wl,hN⟩:=sd.getNode af;rw[hφ]at e1;cases e1;obtain⟨g,hg⟩:=hN.arrOf (by simp only;omega);rw[hg]at hN;obtain⟨qs,junks,SH,SF,Ni,Ex⟩:=sd.getNode iv;obtain⟨ja,jp,jj,hR,hJ⟩:=id sd;have m3:=hR.cells.m3;have c1:w.cell? ⟨q,1,none⟩=some (.slice (some ⟨g,0,none⟩) es.length (es.length+junk.length)):=by rw[hN.box.cell];rfl
 have c2:w.cell? ⟨g,i1*3+2,none⟩=some (.int .i64 s):=by
  have:=(bG (hN.arr g rfl).1 (i:=i1) (by simp;omega)).2.2
  rw[gD,List.getElem?_append_left je,←gD]at this;rw[Bc]at this;exact this
 have gk:∀n,(Instr.lookup 68 (.map (some A.m)) (.int .i64 s) false).run Tryz.prog (w.drewN n)=.ok (.pointer (some ⟨qs,0,none⟩)) (w.drewN n):=fun n=>by
  have:=(hR.hm.of (w':=w.drewN n) rfl).lookup s (by have:=hz.n512;omega)
  rw[SH]at this;simpa only[eQ,Option.map_some] using this
 have wj:IntKind.i64.wrap ((i:Int)+1)=(i1:Int):=by
  have:=r9.out
  rw[IntWalk.i64_in _ ⟨by omega,by omega⟩];omega
 have E8:((i1:Nat):Int) <(es.length:Int):=by omega
 have HF:Hid (fillNext f b i c=if 2<ses.length then
   match shadow f (.ent b i1)with
   | none=>none
   | some (k,s)=>some (moveF k b c s (Fo.look k c).1 ((Fo.look k c).2++(Fo.look k s).2.take 1) ((Fo.look k s).2.drop 1) ((Fo.look k b).2.set i1 (ky (Fo.look k s).2 1,((Fo.look k b).2.getD i1 e0).2)))
  else some (mergeF f b c s k' (ces++ses) (delE es i1))):=by
  show fillNext f b i c=_
  unfold fillNext;rw[aE af];simp only;rw[←r9.out,←Hs.out,aE iv,aE hd];rfl
 have HC:=aA (aI hc au);have DF:=aA Bc;clear hc au Bc;go_enter Tryz.func142,Tryz.ntmps142;go_wp2;go_quiet (fail);clear gk c2 m3;by_cases kw:2<ses.length
 ·have AG:decide (2<ses.length)=true:=by simpa using kw
  have mn:=aA kw;clear kw c1;go_wp2_with fail;refine(fV qs (k',ses) _ junks _ (Ex.below (below_drewN _ _))).mono ?_;rintro e w4 ⟨rfl,cn⟩;rw[cn];clear cn w4;have BL:dR f (.ent b i1):=⟨d5,es,af,je⟩;have BK:gV A (.ent b i1) ⟨g,i1*3+2,none⟩:=⟨g,hg,rfl⟩;go_wp2_with fail;refine(iI _ ρ P A f J (.ent b i1) ⟨g,i1*3+2,none⟩ (sd.below (below_drewN _ _)) hW.ic hz td (by omega) (by omega) BL BK (fun b' i' e=>by cases e;exact qw)).mono ?_;intro e w4 hT;cases al:shadow f (.ent b i1)with
  | none=>
   obtain⟨rfl,ρ4,A4,g4,J4,a1,a2,a3⟩:=hT.no al;have kv:fillNext f b i c=none:=by rw[HF.out,if_pos mn.out,al]
   exact⟨rfl,fun _=>⟨rfl,ρ4,A4,g4,J4,a1,(Mv.of_below (below_drewN _ _)).trans a2 (fun _ _ e=>e),a3.up (by omega)⟩,fun g bp=>by rw[kv]at bp;cases bp⟩
  | some gc=>
   obtain⟨f4,s4⟩:=gc;obtain⟨ρ4,A4,J4,qs4,rfl,rz,ci,BQ,i9⟩:=hT.yes f4 s4 al;have bh:Dn 12 (fun x=>x=s4∨x=bI f (.ent b i1)) w ρ P A f J w4 ρ4 A4 f4 J4:=⟨ci.st,(Mv.of_below (below_drewN _ _)).trans ci.mv (fun _ _ e=>e),ci.js,ci.ad⟩;clear ci hT;obtain⟨w2,p2,p3,⟨es2,m1,m2,m3,m4⟩,m5,m6,m7,m8,m9⟩:=hW.shadow_ent hp af je al;obtain⟨s1,s2,s3⟩:=hW.shadow_sib hp af je al;rw[←Hs.out]at m5 s1 s2;obtain⟨x1,x2,x3⟩:=s2 _ fh g8;have Gq:f4.nodes c=some (k',ces):=by rw[x1];exact hd
   have xn:f4.nodes s4=some (k',ses):=by rw[m5];exact iv
   have KL:s4∈kids (2,es2):=by rw[←m4];exact aP (by rw[m2];exact je)
   have EG:b≠s4:=fun e=>w2.ic.not_self m1 (e▸KL);have mw:kd es2 i=c:=by rw[HC.out.1];unfold kd;rw[(s3 es2 m1 i).2 (by have:=r9.out;omega)]
   have xk:c≠s4:=fun e=>by
    rw[←mw,←m4]at e;have JJ:kd es2 i∈kids (2,es2):=aP (by rw[m2];omega);have:=dY (w2.ic.only (by rw[mw,x2];exact cc) m1 JJ).2.1 (by rw[m2];omega) (by rw[m2];exact je) e.symm;have:=r9.out;omega
   have Bg:bI f (.ent b i1)=s:=by simp only[bI,aE af];exact Hs.out.symm
   have MH:¬(b=s4∨b=bI f (.ent b i1)):=fun e=>by rw[Bg]at e;rcases e with e | e;exact EG e;exact Ba e
   have QA:¬(c=s4∨c=bI f (.ent b i1)):=fun e=>by rw[Bg]at e;rcases e with e | e;exact xk e;exact g8 e
   have B9:A4.φ b=some q:=by rw[bh.ad.φ b MH];exact hφ
   have KT:A4.α b=some g:=by rw[bh.ad.α b MH];exact hg
   have CA:A4.φ c=some qc:=by rw[bh.ad.φ c QA];exact CZ
   have sk:Hid (fillNext f b i c=some (moveF f4 b c s4 k' (ces++ses.take 1) (ses.drop 1) (es2.set i1 (ky ses 1,(es2.getD i1 e0).2)))):=by
    show fillNext f b i c=_
    rw[HF.out,if_pos mn.out,al];simp only[aE Gq,aE xn,aE m1]
   clear HF;obtain⟨q4',junks4,e1,Nj,Hq,mr⟩:=bh.st.getNode xn;rw[rz]at e1;cases e1;obtain⟨gs,xt⟩:=mr.arrOf (by simp only;omega);rw[xt]at mr;obtain⟨qc',junkc,e1,DC,wm,tz⟩:=bh.st.getNode Gq;rw[CA]at e1;cases e1;obtain⟨ac,xd⟩:∃ac,ac=A4.α c:=⟨_,rfl⟩;rw[←xd]at tz;have El:=aA xd;clear xd;have ak:w4.drew.cell? ⟨qc,1,none⟩=some (.slice (adr ac) ces.length (ces.length+junkc.length)):=by show w4.cell? _=_;rw[tz.box.cell];rfl
   have HM:=aA (aI m2 (aI m5 (aI m6 m7)));clear m2 m5 m6 m7 AG;go_wp2;refine aZ (fun W=>W.cell? ⟨qc,1,none⟩=some (.slice (adr ac) ces.length (ces.length+junkc.length))) 11 (by kernel_rfl) ?_;refine tJ 0 33 (.pointer (some ⟨qc,0,none⟩)) rfl ak ?_ (fun w' hw=>by obtain m1:=hw;go_simp;try rfl);simp only[Act.put,sB,sZ,sS];refine tJ 1 34 (.pointer (some ⟨qc,0,none⟩)) rfl ak ?_ (fun w' hw=>by obtain m1:=hw;go_simp;try rfl);simp only[Act.put,sB,sZ,sS];refine tJ 2 35 (.pointer (some ⟨qc,0,none⟩)) rfl ak ?_ (fun w' hw=>by obtain m1:=hw;go_simp;try rfl);simp only[Act.put,sB,sZ,sS];refine tJ 3 36 (.pointer (some ⟨qc,1,none⟩)) rfl ak ?_ (fun w' hw=>by obtain m1:=hw;go_simp;try rfl);simp only[Act.put,sB,sZ,sS];refine tJ 4 37 (.slice (adr ac) ces.length (ces.length+junkc.length)) rfl ak ?_ (fun w' hw=>by obtain m1:=hw;go_simp;try rfl);simp only[Act.put,sB,sZ,sS];refine tJ 5 38 (.pointer (some ⟨qs4,0,none⟩)) rfl ak ?_ (fun w' hw=>by obtain m1:=hw;go_simp;try rfl);simp only[Act.put,sB,sZ,sS];have tu:Bl w4 w4.drew:=(bQ w4.heap.size w4).drew;refine oE 6 rfl fun K2 ae=>?_;go_simp;refine(gP qs4 gs k' ses junks4 0 w4.drew (mr.below tu) C3 (by omega)).mono ?_;rintro e w5 ⟨rfl,⟨junks5,oy⟩,el⟩;have FU:Frm (fun x=>x=qs4∨A4.α s4=some x) w4 w5:=(Frm.of_below tu).trans (el.wide fun x _ e=>by rcases e with e | e;exact .inl e;right;rw[xt,e]);rw[aLE]at oy;obtain⟨cw,ng⟩:=bh.st.nodeSame xn rz FU (by rw[xt];exact oy);obtain⟨r1,r2,r3,r4⟩:=rne xk;have L7:∀x,x=qs4∨x=gs→ρ4 x=cE s4∨ρ4 x=cB s4:=fun x e=>by
    rcases e with e | e<;>rw[e]
    ·exact .inl Nj
    ·exact .inr (Hq gs xt)
   have ij:aM w5 qc (k',ces) ac junkc:=(tz.below tu).frm el (fun e=>by
     rcases L7 qc e with e | e
     ·exact r1 (DC.symm.trans e)
     ·exact r2 (DC.symm.trans e)) (fun x hx e=>by
     have bq:=wm x (by rw[←El.out];exact hx);rcases L7 x e with e | e
     ·exact r3 (bq.symm.trans e)
     ·exact r4 (bq.symm.trans e))
   have ly:w5.cell? ⟨qc,1,none⟩=some (.slice (adr ac) ces.length (ces.length+junkc.length)):=by rw[ij.box.cell];rfl
   obtain⟨k0,v0,c0,LN⟩:∃k0 v0 c0,Hid (ses.getD 0 e0=(k0,v0,c0)):=⟨_,_,_,rfl⟩;rw[show aAC (ses.getD 0 e0)=.agg #[.string k0,.string v0,.int .i64 c0] by rw[LN.out];rfl];refine ae _ _ (fun _=>ly) ?_;clear ae K2 ak;refine oE 7 rfl fun K2 ae=>?_;go_simp;obtain⟨G6,zn⟩:=exH (w5.heap.size);obtain⟨W6,BA⟩:=exH (w5.alloc (.cells #[.string k0,.string v0,.int .i64 c0] 110));rw[←BA.out,←zn.out];have yw:IsC W6 G6 (bW [(k0,v0,c0)]) 110:=by rw[BA.out,zn.out];exact IsC.new _ _ _
   have sb:Bl w5 W6:=by rw[BA.out];exact(bQ w5.heap.size w5).alloc (nR _) _
   have ox:=ij.below sb;have vm:W6.cell? ⟨qc,1,none⟩=some (.slice (adr ac) ces.length (ces.length+junkc.length)):=by rw[ox.box.cell];rfl
   refine ae _ _ (fun _=>vm) ?_;clear ae K2 ly;have la:=cw.below sb;obtain⟨ua,un,uc,W7,q9,eS⟩:=qY ac ces junkc [(k0,v0,c0)] (.slice (some ⟨G6,0,none⟩) 1 1) W6 (fun x e=>(ox.arr x e).1) ox.nil (.inr ⟨G6,0,1,[(k0,v0,c0)],rfl,yw,by simp,by simp⟩) (by have:=HC.out.2;simp;omega) ox.small (by simp);refine oE 8 rfl fun K2 ae=>?_;refine kE (.tmp 37) (.tmp 40) _ _ (by rfl) (.slice (adr ac) ces.length (ces.length+junkc.length)) (.slice (some ⟨G6,0,none⟩) 1 1) (by rfl) (by rfl) (.slice ua un uc) W7 (q9 _) ?_;have nn:W7.cell? ⟨qc,1,none⟩=some (.slice (adr ac) ces.length (ces.length+junkc.length)):=(dB (eS.frm.block qc ox.box.lt (fun e=>(ox.arr qc e).2 rfl)) 1).trans vm;have Ft:(setN f4 s4 (k',ses.drop 1)).nodes c=some (k',ces):=(bB _ _ xk).trans Gq;obtain⟨a',-,ni,Al,-,vy⟩:=la.ins (w1:=W7) (u:=.slice ua un uc) Ft CA (by rw[←El.out];exact eS);refine ae _ _ (fun _=>nn) ?_;clear ae K2 vm;simp only[Act.put,sB,sZ,sS];refine oE 9 rfl fun K2 ae=>?_;go_simp;refine ae _ _ (fun _=>nn) ?_;clear ae K2;refine oE 10 rfl fun K2 ae=>?_;go_simp;refine ae _ _ (fun _=>nn) ?_;clear ae K2;refine oE 11 rfl fun K2 ae=>?_;go_simp;refine ae _ _ (fun q=>absurd rfl q) ?_;clear ae K2 nn vy;refine aS (by kernel_rfl) ?_ _;have tw:Mv (fun _=>False) w ρ (W7.setCell ⟨qc,1,none⟩ (.slice ua un uc)) (jC ρ4 a' c):=((bh.mv.trans ng (fun _ _ e=>e)).trans (Mv.of_below sb) (fun _ _ e=>e)).trans Al (fun _ _ e=>e);generalize W7.setCell ⟨qc,1,none⟩ (.slice ua un uc)=W8 at *;obtain⟨f8,Gc⟩:=exH (setN (setN f4 s4 (k',ses.drop 1)) c (k',ces++[(k0,v0,c0)]));rw[←Gc.out]at ni;have NH:f8.nodes s4=some (k',ses.drop 1):=by rw[Gc.out,bB _ _ (Ne.symm xk)];exact sQ _ _ _
   have oh:f8.nodes b=some (2,es2):=by rw[Gc.out,bB _ _ ms,bB _ _ EG];exact m1
   obtain⟨q4',junks8,e1,-,-,L2⟩:=ni.getNode NH;rw[show(dO A4 c a').φ s4=some qs4 from rz]at e1;cases e1;have Xn:(dO A4 c a').α s4=some gs:=(aC _ _ (Ne.symm xk)).trans xt;obtain⟨n5,Hn5⟩:∃n5,Hid ((ses.drop 1).length=n5):=⟨_,rfl⟩;have Bj:0<n5:=by have:=Hn5.out;simp at this;omega
   obtain⟨t1,t2⟩:=L2.first Xn Hn5.out Bj;have ek:ky (ses.drop 1) 0=ky ses 1:=by unfold ky;rw[aAR]
   simp only[ek]at t2;obtain⟨y,HY⟩:=exH (ky ses 1);rw[←HY.out]at t2;obtain⟨q',junkb8,e1,-,-,ig⟩:=ni.getNode oh;rw[show(dO A4 c a').φ b=some q from B9]at e1;cases e1;have me:(dO A4 c a').α b=some g:=(aC _ _ ms).trans KT;rw[me]at ig;have AK:i1<es2.length:=by rw[HM.out.1];exact je
   have tk:=(bG (ig.arr g rfl).1 (i:=i1) (by simp;omega)).1;have tf:=(ig.arr g rfl).1.frozen (i1*3);have og:=ig.setc (i:=i1) (j:=0) (v:=.string y) (e':=(y,(es2.getD i1 e0).2)) AK (by omega) (by simp[aJ]);rw[Nat.add_zero]at og;obtain⟨py,CI⟩:=ni.nodeSame (w':=W8.setCell ⟨g,i1*3,none⟩ (.string y)) oh B9 (Frm.set W8 (p:=⟨g,i1*3,none⟩) (.inr me) _) (by rw[me];exact og);have bg:setN f8 b (2,es2.set i1 (y,(es2.getD i1 e0).2))=moveF f4 b c s4 k' (ces++ses.take 1) (ses.drop 1) (es2.set i1 (ky ses 1,(es2.getD i1 e0).2)):=by
    rw[Gc.out,HY.out,aEQ _ (Ne.symm xk),aHZ (by omega),LN.out];rfl
   rw[bg]at py;have DI:JS 12 f J (moveF f4 b c s4 k' (ces++ses.take 1) (ses.drop 1) (es2.set i1 (ky ses 1,(es2.getD i1 e0).2))) J4:=by
    refine(((bh.js.trans (JS.setN _ (bh.js.tch c Eg))).trans (JS.setN _ BQ)).trans (JS.setN _ (bh.js.tch b qw))).up (by omega)
   have JK:c<f4.cur.length:=i9.lt c _ Gq;have C4:s4<f4.cur.length:=i9.lt s4 _ xn;have I7:b<f4.cur.length:=i9.lt b _ m1;have DB:Sz (K+10) (moveF f4 b c s4 k' (ces++ses.take 1) (ses.drop 1) (es2.set i1 (ky ses 1,(es2.getD i1 e0).2))):=
    ((i9.setN JK (by have:=HC.out.2;simp;omega)).setN C4 (by simp;omega)).setN I7 (by have:=HM.out.1;simp;omega)
   have HR:=aA (show Dn 12 (fun _=>True) w ρ P A f J (W8.setCell ⟨g,i1*3,none⟩ (.string y)) (jC ρ4 a' c) (dO A4 c a') (moveF f4 b c s4 k' (ces++ses.take 1) (ses.drop 1) (es2.set i1 (ky ses 1,(es2.getD i1 e0).2))) J4∧Sz (K+10) (moveF f4 b c s4 k' (ces++ses.take 1) (ses.drop 1) (es2.set i1 (ky ses 1,(es2.getD i1 e0).2)))from⟨⟨py,tw.trans CI (fun _ _ e=>e),DI,(bh.ad.trans (AdS.arr A4 c a')).up fun _ _=>trivial⟩,DB⟩);clear py CI DI DB bg og ig L2 ni tw Al la cw ng eS ox ij yw bh;go_wp2;first | go_end0 | refine bodyPost_ret (results_none rfl _ _ _) rfl ?_
   obtain⟨BG,zg⟩:=HR.out;refine⟨fun q=>(by rw[sk.out]at q;cases q),fun g' rk=>?_⟩;rw[sk.out]at rk;cases rk;exact⟨rfl,_,_,J4,BG,B9.trans hφ.symm,CA.trans CZ.symm,zg⟩
 ·have AG:decide (2<ses.length)=false:=by simpa using kw
  have mn:=aA kw;clear kw c1;go_wp2_with fail;refine(fV qs (k',ses) _ junks _ (Ex.below (below_drewN _ _))).mono ?_;rintro e w4 ⟨rfl,cn⟩;have dm:Bl w w4:=by rw[cn];exact below_drewN _ _
  clear cn;have aw:=sd.below dm;have mr:=Ex.below dm;obtain⟨az,has⟩:∃az,az=A.α s:=⟨_,rfl⟩;rw[←has]at mr;obtain⟨qc',junkc,e1,DC,wm,tz⟩:=aw.getNode hd;rw[CZ]at e1;cases e1;obtain⟨ac,xd⟩:∃ac,ac=A.α c:=⟨_,rfl⟩;rw[←xd]at tz;have El:=aA xd;clear xd has AG;have ak:w4.drew.cell? ⟨qc,1,none⟩=some (.slice (adr ac) ces.length (ces.length+junkc.length))∧w4.drew.cell? ⟨qs,1,none⟩=some (.slice (adr az) ses.length (ses.length+junks.length)):=⟨by show w4.cell? _=_;rw[tz.box.cell];rfl,by show w4.cell? _=_;rw[mr.box.cell];rfl⟩;go_wp2;refine aZ (fun W=>W.cell? ⟨qc,1,none⟩=some (.slice (adr ac) ces.length (ces.length+junkc.length))∧W.cell? ⟨qs,1,none⟩=some (.slice (adr az) ses.length (ses.length+junks.length))) 12 (by kernel_rfl) ?_;refine tJ 0 54 (.pointer (some ⟨qc,0,none⟩)) rfl ak ?_;simp only[Act.put,sB,sZ,sS];refine tJ 1 55 (.pointer (some ⟨qc,0,none⟩)) rfl ak ?_;simp only[Act.put,sB,sZ,sS];refine tJ 2 56 (.pointer (some ⟨qc,0,none⟩)) rfl ak ?_;simp only[Act.put,sB,sZ,sS];refine tJ 3 57 (.pointer (some ⟨qc,1,none⟩)) rfl ak ?_;simp only[Act.put,sB,sZ,sS];refine tJ 4 58 (.slice (adr ac) ces.length (ces.length+junkc.length)) rfl ak ?_;simp only[Act.put,sB,sZ,sS];refine tJ 5 59 (.pointer (some ⟨qs,0,none⟩)) rfl ak ?_;simp only[Act.put,sB,sZ,sS];refine tJ 6 60 (.pointer (some ⟨qs,0,none⟩)) rfl ak ?_;simp only[Act.put,sB,sZ,sS];refine tJ 7 61 (.pointer (some ⟨qs,1,none⟩)) rfl ak ?_;simp only[Act.put,sB,sZ,sS];refine tJ 8 62 (.slice (adr az) ses.length (ses.length+junks.length)) rfl ak ?_;simp only[Act.put,sB,sZ,sS];have tu:Bl w4 w4.drew:=(bQ w4.heap.size w4).drew;have ij:=tz.below tu;have oy:=mr.below tu;have cw:=aw.below tu;have Iv:∀x,ac=some x→x≠qs:=fun x e e'=>by
   have h1:=(ij.arr x e).1;rw[e']at h1;exact IsC.ne h1 oy.box (by decide) rfl
  obtain⟨ua,un,uc,W7,q9,eS⟩:=qY ac ces junkc ses (.slice (adr az) ses.length (ses.length+junks.length)) w4.drew (fun x e=>(ij.arr x e).1) ij.nil oy.esl (by have:=HC.out.2;omega) ij.small (by omega);refine oE 9 rfl fun K2 ae=>?_;refine kE (.tmp 58) (.tmp 62) _ _ (by rfl) (.slice (adr ac) ces.length (ces.length+junkc.length)) (.slice (adr az) ses.length (ses.length+junks.length)) (by rfl) (by rfl) (.slice ua un uc) W7 (q9 _) ?_;have nn:W7.cell? ⟨qc,1,none⟩=some (.slice (adr ac) ces.length (ces.length+junkc.length))∧W7.cell? ⟨qs,1,none⟩=some (.slice (adr az) ses.length (ses.length+junks.length)):=⟨(dB (eS.frm.block qc ij.box.lt (fun e=>(ij.arr qc e).2 rfl)) 1).trans ak.1,(dB (eS.frm.block qs oy.box.lt (fun e=>Iv qs e rfl)) 1).trans ak.2⟩;obtain⟨a',-,ni,Al,-,vy⟩:=cw.ins (w1:=W7) (u:=.slice ua un uc) hd CZ (by rw[←El.out];exact eS);refine ae _ _ (fun _=>nn) ?_;clear ae K2 ak;simp only[Act.put,sB,sZ,sS];refine oE 10 rfl fun K2 ae=>?_;go_simp;refine ae _ _ (fun _=>nn) ?_;clear ae K2;refine oE 11 rfl fun K2 ae=>?_;go_simp;refine ae _ _ (fun _=>nn) ?_;clear ae K2;obtain⟨Bu,-⟩:=nn;refine oE 12 rfl fun K2 ae=>?_;go_simp;refine ae _ _ (fun q=>absurd rfl q) ?_;clear ae K2 Bu vy;refine aS (by kernel_rfl) ?_ _;have tw:Mv (fun _=>False) w ρ (W7.setCell ⟨qc,1,none⟩ (.slice ua un uc)) (jC ρ a' c):=((Mv.of_below dm).trans (Mv.of_below tu) (fun _ _ e=>e)).trans Al (fun _ _ e=>e);generalize W7.setCell ⟨qc,1,none⟩ (.slice ua un uc)=W8 at *;have oh:(setN f c (k',ces++ses)).nodes b=some (2,es):=(bB _ _ ms).trans af;obtain⟨q',junkb8,e1,-,-,ig⟩:=ni.getNode oh;rw[show(dO A c a').φ b=some q from hφ]at e1;cases e1;have me:(dO A c a').α b=some g:=(aC _ _ ms).trans hg;rw[me]at ig;go_wp2_with fail;refine(gP q g 2 es junkb8 i1 W8 ig ft je).mono ?_;rintro e w9 ⟨rfl,⟨junkb9,Cl⟩,vz⟩;obtain⟨k1,v1,FM⟩:∃k1 v1,Hid (es.getD i1 e0=(k1,v1,(s:Int))):=⟨(es.getD i1 e0).1,(es.getD i1 e0).2.1,by show _=_;rw[←DF.out]⟩;rw[show aAC (es.getD i1 e0)=.agg #[.string k1,.string v1,.int .i64 s] by rw[FM.out];rfl];obtain⟨py,CI⟩:=ni.nodeSame oh hφ (vz.wide fun x _ e=>by rcases e with e | e;exact .inl e;right;rw[me,e]) (by rw[me];exact Cl);have JU:(setN (setN f c (k',ces++ses)) b (2,delE es i1)).nodes s=some (k',ses):=((bB _ _ (Ne.symm Ba)).trans (bB _ _ (Ne.symm g8))).trans iv;have DB:Sz K (setN (setN f c (k',ces++ses)) b (2,delE es i1)):=(hz.setN JL (by have:=HC.out.2;have:=mn.out;simp;omega)).setN d5 (by have:=bH es i1 je;simp only;omega);have JP:cu (setN (setN f c (k',ces++ses)) b (2,delE es i1)) s=cu f s:=rfl;have DI:JS 0 f J (setN (setN f c (k',ces++ses)) b (2,delE es i1)) J:=(JS.setN _ Eg).trans (JS.setN _ qw);clear Cl ig vz;go_wp2_with fail;refine(nU w9 (jC ρ a' c) P (dO A c a') (setN (setN f c (k',ces++ses)) b (2,delE es i1)) J s (k',ses) py DB (by omega) (by omega) JU (by rw[JP];have:=hW.ic.cu_pos iv;omega) (fun x hx=>hW.ic.kid_lt iv hx) (aCW hW.ic iv)).mono ?_;rintro e w10 ⟨rfl,ρ10,J10,Cn,Dk,Di,Ek⟩;have BC:AdS (fun _=>True) A (if cu (setN (setN f c (k',ces++ses)) b (2,delE es i1)) s=1 then gQ (dO A c a') s else dO A c a')∧(if cu (setN (setN f c (k',ces++ses)) b (2,delE es i1)) s=1 then gQ (dO A c a') s else dO A c a').φ b=A.φ b∧(if cu (setN (setN f c (k',ces++ses)) b (2,delE es i1)) s=1 then gQ (dO A c a') s else dO A c a').φ c=A.φ c:=by
   split
   ·exact⟨((AdS.arr A c a').trans (AdS.del _ s)).up fun _ _=>trivial,aC _ _ Ba,aC _ _ g8⟩
   ·exact⟨(AdS.arr A c a').top,rfl,rfl⟩
  generalize (if cu (setN (setN f c (k',ces++ses)) b (2,delE es i1)) s=1 then gQ (dO A c a') s else dO A c a')=A10 at *;have sk:Hid (fillNext f b i c=some (letGo (setN (setN f c (k',ces++ses)) b (2,delE es i1)) s)):=by
   show fillNext f b i c=_
   rw[HF.out,if_neg mn.out];rfl
  clear HF;have HR:=aA (show Dn 12 (fun _=>True) w ρ P A f J w10 ρ10 A10 (letGo (setN (setN f c (k',ces++ses)) b (2,delE es i1)) s) J10∧Sz (K+10) (letGo (setN (setN f c (k',ces++ses)) b (2,delE es i1)) s)from⟨⟨Cn,(tw.trans CI (fun _ _ e=>e)).trans Dk (fun _ _ e=>e),(DI.trans Di).up (by omega),BC.1⟩,Ek⟩);have HA:=aA BC.2;clear BC Cn Dk Di Ek py CI ni Al tw;go_wp2;first | go_end0 | refine bodyPost_ret (results_none rfl _ _ _) rfl ?_
  obtain⟨BG,zg⟩:=HR.out;refine⟨fun q=>(by rw[sk.out]at q;cases q),fun g' rk=>?_⟩;rw[sk.out]at rk;cases rk;exact⟨rfl,_,_,J10,BG,HA.out.1,HA.out.2,zg⟩
