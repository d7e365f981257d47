import Derived.Test.YtaahkgkdpnnhhaaGreatHq12
set_option maxHeartbeats 9999999
set_option maxRecDepth 99999
set_option linter.all false
namespace Go.Proofs.YtaahkgkdpnnhhaaGreat
open Go.RowKit Fo
variable{K:Int}
theorem aDQ{l:List E3}(h:0<l.length):l.drop (l.length-1)=[l.getD (l.length-1) e0]:=by
 have hl:l.length-1<l.length:=by omega
 rw[List.drop_eq_getElem_cons hl,List.drop_of_length_le (by omega),gD,gE hl];rfl
theorem aES(f:fZ)(b:Nat)(d e:Nd):setN (setN f b d) b e=setN f b e:=by
 have:upd (upd f.nodes b (some d)) b (some e)=upd f.nodes b (some e):=funext fun x=>by by_cases h:x=b<;>simp[upd,h]
 unfold setN;simp only;rw[this]
theorem yH(w:World)(ρ:Nat→Nat)(P:Nat)(A:Adr)(f:fZ)(J:List aQ)(t H:Nat)(Pt:List Nat)(b h:Nat)(lo hi:OB)(es:List E3)(i c:Nat)(kk:Int)(ces:List E3)(q qc:Nat)(sd:St w ρ P A f J)(hW:Wk f t H)(hp:aN f t H Pt b (h+1) lo hi)(af:f.nodes b=some (2,es))(Gw:0<i)(am:i<es.length)(hc:c=kd es i)(hd:f.nodes c=some (kk,ces))(cc:cu f c=1)(au:ces.length=2)(hφ:A.φ b=some q)(CZ:A.φ c=some qc)(hz:Sz K f)(td:1≤K)(hK:K≤700000)(kz:J.length≤600000)(qw:Tch b J)(Eg:Tch c J):
  Calls Tryz.prog 143 #[.pointer (some ⟨P,0,none⟩),.pointer (some ⟨q,0,none⟩),.int .i64 i,.pointer (some ⟨qc,0,none⟩)] w (FlP w ρ P A f J b c (fillLast f b i c) K):=by
 have lk:=qV;have Jc:=aCI;obtain⟨i0,r9⟩:=exH (i-1);have ft:=hz.ent b _ af;simp only at ft;have AL:i0<es.length:=by rw[r9.out];omega
 obtain⟨s,Hs⟩:=exH (kd es i0);have tr:s∈kids (2,es):=by rw[Hs.out];exact aP AL
 have fh:c∈kids (2,es):=by rw[hc];exact aP am
 obtain⟨⟨k',ses⟩,iv⟩:=hW.ic.kid_live af tr;obtain⟨es0,q1,e2,e3,e4,e5⟩:=(hp.ok hW.ok).1;rw[af]at q1;cases q1;have pd:k'=kk:=by
  have BN:=(dN (hc▸hd)).1 (e5 i (by omega)).2;have Am:=(dN (Hs.out▸iv)).1 (e5 i0 AL).2;cases h with
  | zero=>have a1:=BN.1;have a2:=Am.1;simp only at a1 a2;omega
  | succ h=>have a1:=BN.1;have a2:=Am.1;simp only at a1 a2;omega
 subst pd;have rq:2≤ses.length:=by have:=(e5 i0 AL).1;unfold sz at this;rw[←Hs.out,iv]at this;exact this
 have C3:=hz.ent s _ iv;simp only at C3;have g8:c≠s:=fun e=>by
  rw[hc,Hs.out]at e;have:=dY (hW.ic.only (hc▸cc) af (hc▸fh)).2.1 (by omega) AL e.symm;have:=r9.out;omega
 have Ba:b≠s:=fun e=>hW.ic.not_self af (e▸tr);have ms:b≠c:=fun e=>hW.ic.not_self af (e▸fh);have d5:b<f.cur.length:=hz.lt b _ af;have JL:c<f.cur.length:=hz.lt c _ hd;have dw:s<f.cur.length:=hz.lt s _ iv;have Bc:(es.getD i0 e0).2.2=(s:Int):=by
  have h1:=hW.ic.child_pos af AL;rw[Hs.out];unfold kd ch;omega
 obtain⟨q',junk,e1,wn,wl,hN⟩:=sd.getNode af;rw[hφ]at e1;cases e1;obtain⟨g,hg⟩:=hN.arrOf (by simp only;omega);rw[hg]at hN;obtain⟨qs,junks,SH,SF,Ni,Ex⟩:=sd.getNode iv;obtain⟨ja,jp,jj,hR,hJ⟩:=id sd;have m3:=hR.cells.m3;have c1:w.cell? ⟨q,1,none⟩=some (.slice (some ⟨g,0,none⟩) es.length (es.length+junk.length)):=by rw[hN.box.cell];rfl
 have c2:w.cell? ⟨g,i0*3+2,none⟩=some (.int .i64 s):=by
  have:=(bG (hN.arr g rfl).1 (i:=i0) (by simp;omega)).2.2
  rw[gD,List.getElem?_append_left AL,←gD]at this;rw[Bc]at this;exact this
 have gk:∀n,(Instr.lookup 68 (.map (some A.m)) (.int .i64 s) false).run Tryz.prog (w.drewN n)=.ok (.pointer (some ⟨qs,0,none⟩)) (w.drewN n):=fun n=>by
  have:=(hR.hm.of (w':=w.drewN n) rfl).lookup s (by have:=hz.n512;omega)
  rw[SH]at this;simpa only[eQ,Option.map_some] using this
 have wj:IntKind.i64.wrap ((i:Int)-1)=(i0:Int):=by
  have:=r9.out
  rw[IntWalk.i64_in _ ⟨by omega,by omega⟩];omega
 have E8:((i0:Nat):Int) <(es.length:Int):=by omega
 have bw:((i:Nat):Int) <(es.length:Int):=by omega
 have HF:Hid (fillLast f b i c=if 2<ses.length then
   match shadow f (.ent b i0)with
   | none=>none
   | some (k,s)=>some (moveF k b s c (Fo.look k c).1 ((Fo.look k s).2.take ((Fo.look k s).2.length-1)) ((Fo.look k s).2.drop ((Fo.look k s).2.length-1)++(Fo.look k c).2) ((Fo.look k b).2.set i (ky (Fo.look k s).2 ((Fo.look k s).2.length-1),((Fo.look k b).2.getD i e0).2)))
  else some (mergeF f b c s k' (ses++ces) (delE (es.set i (ky es i0,(es.getD i e0).2)) i0))):=by
  show fillLast f b i c=_
  unfold fillLast;rw[aE af];simp only;rw[←r9.out,←Hs.out,aE iv,aE hd];rfl
 have HC:=aA (aI hc au);have DF:=aA Bc;clear hc au Bc;go_enter Tryz.func143,Tryz.ntmps143;go_wp2;go_quiet (fail);clear gk c2 m3;by_cases kw:2<ses.length
 ·have AG:decide (2<ses.length)=true:=by simpa using kw
  have mn:=aA kw;clear kw c1;go_wp2_with fail;refine(fV qs (k',ses) _ junks _ (Ex.below (below_drewN _ _))).mono ?_;rintro e w4 ⟨rfl,cn⟩;rw[cn];clear cn w4;have BL:dR f (.ent b i0):=⟨d5,es,af,AL⟩;have BK:gV A (.ent b i0) ⟨g,i0*3+2,none⟩:=⟨g,hg,rfl⟩;go_wp2_with fail;refine(iI _ ρ P A f J (.ent b i0) ⟨g,i0*3+2,none⟩ (sd.below (below_drewN _ _)) hW.ic hz td (by omega) (by omega) BL BK (fun b' i' e=>by cases e;exact qw)).mono ?_;intro e w4 hT;cases al:shadow f (.ent b i0)with
  | none=>
   obtain⟨rfl,ρ4,A4,g4,J4,a1,a2,a3⟩:=hT.no al;have kv:fillLast f b i c=none:=by rw[HF.out,if_pos mn.out,al]
   exact⟨rfl,fun _=>⟨rfl,ρ4,A4,g4,J4,a1,(Mv.of_below (below_drewN _ _)).trans a2 (fun _ _ e=>e),a3.up (by omega)⟩,fun g bp=>by rw[kv]at bp;cases bp⟩
  | some gc=>
   obtain⟨f4,s4⟩:=gc;obtain⟨ρ4,A4,J4,qs4,rfl,rz,ci,BQ,i9⟩:=hT.yes f4 s4 al;have bh:Dn 12 (fun x=>x=s4∨x=bI f (.ent b i0)) w ρ P A f J w4 ρ4 A4 f4 J4:=⟨ci.st,(Mv.of_below (below_drewN _ _)).trans ci.mv (fun _ _ e=>e),ci.js,ci.ad⟩;clear ci hT;obtain⟨w2,p2,p3,⟨es2,m1,m2,m3,m4⟩,m5,m6,m7,m8,m9⟩:=hW.shadow_ent hp af AL al;obtain⟨s1,s2,s3⟩:=hW.shadow_sib hp af AL al;rw[←Hs.out]at m5 s1 s2;obtain⟨x1,x2,x3⟩:=s2 _ fh g8;have Gq:f4.nodes c=some (k',ces):=by rw[x1];exact hd
   have xn:f4.nodes s4=some (k',ses):=by rw[m5];exact iv
   have KL:s4∈kids (2,es2):=by rw[←m4];exact aP (by rw[m2];exact AL)
   have EG:b≠s4:=fun e=>w2.ic.not_self m1 (e▸KL);have mw:kd es2 i=c:=by rw[HC.out.1];unfold kd;rw[(s3 es2 m1 i).2 (by have:=r9.out;omega)]
   have xk:c≠s4:=fun e=>by
    rw[←mw,←m4]at e;have JJ:kd es2 i∈kids (2,es2):=aP (by rw[m2];omega);have:=dY (w2.ic.only (by rw[mw,x2];exact cc) m1 JJ).2.1 (by rw[m2];omega) (by rw[m2];exact AL) e.symm;have:=r9.out;omega
   have Bg:bI f (.ent b i0)=s:=by simp only[bI,aE af];exact Hs.out.symm
   have MH:¬(b=s4∨b=bI f (.ent b i0)):=fun e=>by rw[Bg]at e;rcases e with e | e;exact EG e;exact Ba e
   have QA:¬(c=s4∨c=bI f (.ent b i0)):=fun e=>by rw[Bg]at e;rcases e with e | e;exact xk e;exact g8 e
   have B9:A4.φ b=some q:=by rw[bh.ad.φ b MH];exact hφ
   have KT:A4.α b=some g:=by rw[bh.ad.α b MH];exact hg
   have CA:A4.φ c=some qc:=by rw[bh.ad.φ c QA];exact CZ
   have sk:Hid (fillLast f b i c=some (moveF f4 b s4 c k' (ses.take (ses.length-1)) (ses.drop (ses.length-1)++ces) (es2.set i (ky ses (ses.length-1),(es2.getD i e0).2)))):=by
    show fillLast f b i c=_
    rw[HF.out,if_pos mn.out,al];simp only[aE Gq,aE xn,aE m1]
   clear HF;obtain⟨q4',junks4,e1,Nj,Hq,mr⟩:=bh.st.getNode xn;rw[rz]at e1;cases e1;obtain⟨gs,xt⟩:=mr.arrOf (by simp only;omega);rw[xt]at mr;obtain⟨l1,KW⟩:=exH (ses.length-1);have d8:l1<ses.length:=by rw[KW.out];omega
   have YZ:IntKind.i64.wrap ((ses.length:Int)-1)=(l1:Int):=by
    have:=KW.out
    rw[IntWalk.i64_in _ ⟨by omega,by omega⟩];omega
   have cs1:w4.cell? ⟨qs4,1,none⟩=some (.slice (some ⟨gs,0,none⟩) ses.length (ses.length+junks4.length)):=by rw[mr.box.cell];rfl
   have XK:ses.length+junks4.length≤maxLen:=mr.small;have HM:=aA (aI m2 (aI m5 (aI m6 m7)));clear m2 m5 m6 m7 AG;go_wp2_with fail;refine(gP qs4 gs k' ses junks4 l1 w4 mr C3 d8).mono ?_;rintro e w5 ⟨rfl,⟨junks5,oy⟩,el⟩;have Kk:delE ses l1=ses.take (ses.length-1):=by
    unfold delE;rw[KW.out,show ses.length-1+1=ses.length by omega];simp
   have FU:Frm (fun x=>x=qs4∨A4.α s4=some x) w4 w5:=el.wide fun x _ e=>by rcases e with e | e;exact .inl e;right;rw[xt,e]
   rw[Kk]at oy;obtain⟨cw,ng⟩:=bh.st.nodeSame xn rz FU (by rw[xt];exact oy);obtain⟨k0,v0,c0,LN⟩:∃k0 v0 c0,Hid (ses.getD l1 e0=(k0,v0,c0)):=⟨_,_,_,rfl⟩;rw[show aAC (ses.getD l1 e0)=.agg #[.string k0,.string v0,.int .i64 c0] by rw[LN.out];rfl];clear oy el FU cs1;go_wp2;obtain⟨M,O1⟩:=exH (w5.heap.size);obtain⟨Wm,PE⟩:=exH (w5.alloc (.cells #[.string k0,.string v0,.int .i64 c0] 110));rw[←PE.out,←O1.out];have OF:IsC Wm M #[.string k0,.string v0,.int .i64 c0] 110:=by rw[PE.out,O1.out];exact IsC.new _ _ _
   have Lg:Bl w5 Wm:=by rw[PE.out];exact(bQ w5.heap.size w5).alloc (nR _) _
   have SB:ρ4 M=0:=Nat.eq_zero_of_not_pos fun q=>by
    obtain⟨_,_,_,CK,_⟩:=id cw;have:=CK.own M (by omega);rw[O1.out]at this;omega
   have P4:=cw.below Lg;have Ft:(setN f4 s4 (k',ses.take (ses.length-1))).nodes c=some (k',ces):=(bB _ _ xk).trans Gq;obtain⟨qc',junkc,e1,DC,wm,ij⟩:=P4.getNode Ft;rw[CA]at e1;cases e1;obtain⟨ac,xd⟩:∃ac,ac=A4.α c:=⟨_,rfl⟩;rw[←xd]at ij;have El:=aA xd;clear xd;have VT:M≠qc:=fun e=>by rw[e,DC]at SB;unfold cE at SB;omega
   have VS:∀x,ac=some x→M≠x:=fun x e e'=>by
    have:=wm x (by rw[←El.out];exact e)
    rw[←e',SB]at this;unfold cB at this;omega
   have Tb:∀W:World,IsC W M #[.string k0,.string v0,.int .i64 c0] 110→W.cell? ⟨M,0,none⟩=some (.string k0)∧W.cell? ⟨M,1,none⟩=some (.string v0)∧W.cell? ⟨M,2,none⟩=some (.int .i64 c0):=fun W hW=>⟨hW.c rfl,hW.c rfl,hW.c rfl⟩;have DE:=aA Tb;clear Tb;have ak:Wm.drew.cell? ⟨qc,1,none⟩=some (.slice (adr ac) ces.length (ces.length+junkc.length))∧Wm.drew.cell? ⟨M,0,none⟩=some (.string k0)∧Wm.drew.cell? ⟨M,1,none⟩=some (.string v0)∧Wm.drew.cell? ⟨M,2,none⟩=some (.int .i64 c0):=⟨by show Wm.cell? _=_;rw[ij.box.cell];rfl,DE.out Wm OF⟩;refine aZ (fun W=>W.cell? ⟨qc,1,none⟩=some (.slice (adr ac) ces.length (ces.length+junkc.length))∧W.cell? ⟨M,0,none⟩=some (.string k0)∧W.cell? ⟨M,1,none⟩=some (.string v0)∧W.cell? ⟨M,2,none⟩=some (.int .i64 c0)) 10 (by kernel_rfl) ?_;refine tJ 0 42 (.pointer (some ⟨qc,0,none⟩)) rfl ak ?_;simp only[Act.put,sB,sZ,sS];refine tJ 1 43 (.pointer (some ⟨qc,0,none⟩)) rfl ak ?_;simp only[Act.put,sB,sZ,sS];refine tJ 2 44 (.pointer (some ⟨qc,0,none⟩)) rfl ak ?_;simp only[Act.put,sB,sZ,sS];refine tJ 3 45 (.pointer (some ⟨qc,1,none⟩)) rfl ak ?_;simp only[Act.put,sB,sZ,sS];refine tJ 4 46 (.slice (adr ac) ces.length (ces.length+junkc.length)) rfl ak ?_;simp only[Act.put,sB,sZ,sS];refine tJ 5 47 (.agg #[.string k0,.string v0,.int .i64 c0]) rfl ak ?_;simp only[Act.put,sB,sZ,sS];refine oE 6 rfl fun K2 ae=>?_;go_simp;obtain⟨G6,zn⟩:=exH (Wm.heap.size);obtain⟨W6,BA⟩:=exH ((Wm.alloc (.cells #[.string k0,.string v0,.int .i64 c0] 110)).drew);rw[←BA.out,←zn.out];have yw:IsC W6 G6 (bW [(k0,v0,c0)]) 110:=by rw[BA.out,zn.out];exact(IsC.new Wm _ _).drew
   have sb:Bl Wm W6:=by rw[BA.out];exact((bQ Wm.heap.size Wm).alloc (nR _) _).drew
   have ox:=ij.below sb;have IX:IsC W6 M #[.string k0,.string v0,.int .i64 c0] 110:=OF.of (sb.block M OF.lt);have Lq:∀x,ac=some x→x≠G6:=fun x e=>by rw[zn.out];exact Nat.ne_of_lt (ij.arr x e).1.lt
   have vm:W6.cell? ⟨qc,1,none⟩=some (.slice (adr ac) ces.length (ces.length+junkc.length))∧W6.cell? ⟨M,0,none⟩=some (.string k0)∧W6.cell? ⟨M,1,none⟩=some (.string v0)∧W6.cell? ⟨M,2,none⟩=some (.int .i64 c0):=⟨by rw[ox.box.cell];rfl,DE.out W6 IX⟩;refine ae _ _ (fun _=>vm) ?_;clear ae K2 ak;have la:=P4.below sb;refine oE 7 rfl fun K2 ae=>?_;go_simp;refine(jU ac ces junkc [(k0,v0,c0)] (some ⟨G6,0,none⟩) 1 0 W6 (fun x e=>(ox.arr x e).1) ox.nil (.inr ⟨G6,0,1,[(k0,v0,c0)],rfl,yw,by simp,by simp⟩) (fun gv o n c' e e'=>by cases e;exact Lq _ e' rfl) (Nat.zero_le _) (by simp) (by have:=HC.out.2;simp;omega) ox.small).mono ?_;rintro e w7 ⟨u,rfl,eS⟩;obtain⟨ua,un,uc,rfl⟩:∃ua un uc,u=.slice ua un uc:=by obtain⟨⟨a',j',e,_⟩,_⟩:=eS;exact⟨_,_,_,e⟩
   rw[show ces.take 0++[(k0,v0,c0)]++ces.drop 0=[(k0,v0,c0)]++ces by simp]at eS;have IY:IsC w7 M #[.string k0,.string v0,.int .i64 c0] 110:=IX.frm eS.frm (fun e=>VS M e rfl);have nn:w7.cell? ⟨qc,1,none⟩=some (.slice (adr ac) ces.length (ces.length+junkc.length))∧w7.cell? ⟨M,0,none⟩=some (.string k0)∧w7.cell? ⟨M,1,none⟩=some (.string v0)∧w7.cell? ⟨M,2,none⟩=some (.int .i64 c0):=⟨(dB (eS.frm.block qc ox.box.lt (fun e=>(ox.arr qc e).2 rfl)) 1).trans vm.1,DE.out w7 IY⟩;obtain⟨a',-,ni,Al,-,vy⟩:=la.ins (w1:=w7) (u:=.slice ua un uc) Ft CA (by rw[←El.out];exact eS);have L0:IsC (w7.setCell ⟨qc,1,none⟩ (.slice ua un uc)) M #[.string k0,.string v0,.int .i64 c0] 110:=IY.set_ne _ VT;refine ae _ _ (fun _=>nn) ?_;clear ae K2 vm;refine oE 8 rfl fun K2 ae=>?_;go_simp;refine ae _ _ (fun _=>nn) ?_;clear ae K2;refine oE 9 rfl fun K2 ae=>?_;go_simp;refine ae _ _ (fun _=>nn) ?_;clear ae K2;obtain⟨Bu,-⟩:=nn;refine oE 10 rfl fun K2 ae=>?_;go_simp;refine ae _ _ (fun q=>absurd rfl q) ?_;clear ae K2 Bu vy;refine aS (by kernel_rfl) ?_ _;have tw:Mv (fun _=>False) w ρ (w7.setCell ⟨qc,1,none⟩ (.slice ua un uc)) (jC ρ4 a' c):=(((bh.mv.trans ng (fun _ _ e=>e)).trans (Mv.of_below Lg) (fun _ _ e=>e)).trans (Mv.of_below sb) (fun _ _ e=>e)).trans Al (fun _ _ e=>e);generalize w7.setCell ⟨qc,1,none⟩ (.slice ua un uc)=W8 at *;obtain⟨f8,Gc⟩:=exH (setN (setN f4 s4 (k',ses.take (ses.length-1))) c (k',[(k0,v0,c0)]++ces));rw[←Gc.out]at ni;have oh:f8.nodes b=some (2,es2):=by rw[Gc.out,bB _ _ ms,bB _ _ EG];exact m1
   obtain⟨q',junkb8,e1,-,-,ig⟩:=ni.getNode oh;rw[show(dO A4 c a').φ b=some q from B9]at e1;cases e1;have me:(dO A4 c a').α b=some g:=(aC _ _ ms).trans KT;rw[me]at ig;have AK:i<es2.length:=by rw[HM.out.1];exact am
   have WS:((i:Nat):Int) <(es2.length:Int):=by omega
   obtain⟨vk,tk⟩:∃v,W8.cell? ⟨g,i*3,none⟩=some v:=⟨_,(bG (ig.arr g rfl).1 (i:=i) (by simp;omega)).1⟩;have tf:=(ig.arr g rfl).1.frozen (i*3);have og:=ig.setc (i:=i) (j:=0) (v:=.string k0) (e':=(k0,(es2.getD i e0).2)) AK (by omega) (by simp[aJ]);rw[Nat.add_zero]at og;obtain⟨py,CI⟩:=ni.nodeSame (w':=W8.setCell ⟨g,i*3,none⟩ (.string k0)) oh B9 (Frm.set W8 (p:=⟨g,i*3,none⟩) (.inr me) _) (by rw[me];exact og);have bg:setN f8 b (2,es2.set i (k0,(es2.getD i e0).2))=moveF f4 b s4 c k' (ses.take (ses.length-1)) (ses.drop (ses.length-1)++ces) (es2.set i (ky ses (ses.length-1),(es2.getD i e0).2)):=by
    rw[Gc.out,aDQ (by omega)];unfold ky;rw[←KW.out,LN.out];rfl
   rw[bg]at py;have DI:JS 12 f J (moveF f4 b s4 c k' (ses.take (ses.length-1)) (ses.drop (ses.length-1)++ces) (es2.set i (ky ses (ses.length-1),(es2.getD i e0).2))) J4:=by
    refine(((bh.js.trans (JS.setN _ BQ)).trans (JS.setN _ (bh.js.tch c Eg))).trans (JS.setN _ (bh.js.tch b qw))).up (by omega)
   have JK:c<f4.cur.length:=i9.lt c _ Gq;have C4:s4<f4.cur.length:=i9.lt s4 _ xn;have I7:b<f4.cur.length:=i9.lt b _ m1;have DB:Sz (K+10) (moveF f4 b s4 c k' (ses.take (ses.length-1)) (ses.drop (ses.length-1)++ces) (es2.set i (ky ses (ses.length-1),(es2.getD i e0).2))):=
    ((i9.setN C4 (by simp;omega)).setN JK (by have:=HC.out.2;simp;omega)).setN I7 (by have:=HM.out.1;simp;omega)
   have HR:=aA (show Dn 12 (fun _=>True) w ρ P A f J (W8.setCell ⟨g,i*3,none⟩ (.string k0)) (jC ρ4 a' c) (dO A4 c a') (moveF f4 b s4 c k' (ses.take (ses.length-1)) (ses.drop (ses.length-1)++ces) (es2.set i (ky ses (ses.length-1),(es2.getD i e0).2))) J4∧Sz (K+10) (moveF f4 b s4 c k' (ses.take (ses.length-1)) (ses.drop (ses.length-1)++ces) (es2.set i (ky ses (ses.length-1),(es2.getD i e0).2)))from⟨⟨py,tw.trans CI (fun _ _ e=>e),DI,(bh.ad.trans (AdS.arr A4 c a')).up fun _ _=>trivial⟩,DB⟩);have np:W8.drew.cell? ⟨q,1,none⟩=some (.slice (some ⟨g,0,none⟩) es2.length (es2.length+junkb8.length))∧W8.drew.cell? ⟨M,0,none⟩=some (.string k0):=⟨by show W8.cell? _=_;rw[ig.box.cell];rfl,(DE.out W8 L0).1⟩;clear py CI DI DB bg og ig ni tw Al la cw ng eS ox ij yw bh L0 IY IX OF P4;go_wp2;refine aZ (fun W=>W.cell? ⟨q,1,none⟩=some (.slice (some ⟨g,0,none⟩) es2.length (es2.length+junkb8.length))∧W.cell? ⟨M,0,none⟩=some (.string k0)) 9 (by kernel_rfl) ?_;refine tJ 0 52 (.pointer (some ⟨q,0,none⟩)) rfl np ?_;simp only[Act.put,sB,sZ,sS];refine tJ 1 53 (.pointer (some ⟨q,0,none⟩)) rfl np ?_;simp only[Act.put,sB,sZ,sS];refine tJ 2 54 (.pointer (some ⟨q,1,none⟩)) rfl np ?_;simp only[Act.put,sB,sZ,sS];refine tJ 3 55 (.slice (some ⟨g,0,none⟩) es2.length (es2.length+junkb8.length)) rfl np ?_;simp only[Act.put,sB,sZ,sS];refine tJ 4 56 (.int .i64 i) rfl np ?_;simp only[Act.put,sB,sZ,sS];refine tJ 5 57 (.pointer (some ⟨M,0,none⟩)) rfl np ?_;simp only[Act.put,sB,sZ,sS];refine tJ 6 58 (.string k0) rfl np ?_;simp only[Act.put,sB,sZ,sS];refine oE 7 rfl fun K2 ae=>?_;go_simp;refine ae _ _ (fun _=>np) ?_;clear ae K2;refine oE 8 rfl fun K2 ae=>?_;go_simp;refine ae _ _ (fun _=>np) ?_;clear ae K2;refine oE 9 rfl fun K2 ae=>?_;go_simp;refine ae _ _ (fun q=>absurd rfl q) ?_;clear ae K2;refine aS (by kernel_rfl) ?_ _;go_wp2;first | go_end0 | refine bodyPost_ret (results_none rfl _ _ _) rfl ?_
   obtain⟨BG,zg⟩:=HR.out;refine⟨fun q=>(by rw[sk.out]at q;cases q),fun g' rk=>?_⟩;rw[sk.out]at rk;cases rk;exact⟨rfl,_,_,J4,BG.below (by first | exact bQ _ _ | exact(bQ _ _).drew),B9.trans hφ.symm,CA.trans CZ.symm,zg⟩
 ·have AG:decide (2<ses.length)=false:=by simpa using kw
  have mn:=aA kw;clear kw c1;go_wp2_with fail;refine(fV qs (k',ses) _ junks _ (Ex.below (below_drewN _ _))).mono ?_;rintro e w4 ⟨rfl,cn⟩;have dm:Bl w w4:=by rw[cn];exact below_drewN _ _
  clear cn;have aw:=sd.below dm;have mr:=Ex.below dm;obtain⟨az,has⟩:∃az,az=A.α s:=⟨_,rfl⟩;rw[←has]at mr;obtain⟨qc',junkc,e1,DC,wm,tz⟩:=aw.getNode hd;rw[CZ]at e1;cases e1;obtain⟨ac,xd⟩:∃ac,ac=A.α c:=⟨_,rfl⟩;rw[←xd]at tz;have El:=aA xd;have UO:=aA has;clear xd has AG;have ak:w4.drew.cell? ⟨qc,1,none⟩=some (.slice (adr ac) ces.length (ces.length+junkc.length))∧w4.drew.cell? ⟨qs,1,none⟩=some (.slice (adr az) ses.length (ses.length+junks.length)):=⟨by show w4.cell? _=_;rw[tz.box.cell];rfl,by show w4.cell? _=_;rw[mr.box.cell];rfl⟩;go_wp2;refine aZ (fun W=>W.cell? ⟨qc,1,none⟩=some (.slice (adr ac) ces.length (ces.length+junkc.length))∧W.cell? ⟨qs,1,none⟩=some (.slice (adr az) ses.length (ses.length+junks.length))) 12 (by kernel_rfl) ?_;refine tJ 0 61 (.pointer (some ⟨qc,0,none⟩)) rfl ak ?_;simp only[Act.put,sB,sZ,sS];refine tJ 1 62 (.pointer (some ⟨qc,0,none⟩)) rfl ak ?_;simp only[Act.put,sB,sZ,sS];refine tJ 2 63 (.pointer (some ⟨qc,0,none⟩)) rfl ak ?_;simp only[Act.put,sB,sZ,sS];refine tJ 3 64 (.pointer (some ⟨qc,1,none⟩)) rfl ak ?_;simp only[Act.put,sB,sZ,sS];refine tJ 4 65 (.slice (adr ac) ces.length (ces.length+junkc.length)) rfl ak ?_;simp only[Act.put,sB,sZ,sS];refine tJ 5 66 (.pointer (some ⟨qs,0,none⟩)) rfl ak ?_;simp only[Act.put,sB,sZ,sS];refine tJ 6 67 (.pointer (some ⟨qs,0,none⟩)) rfl ak ?_;simp only[Act.put,sB,sZ,sS];refine tJ 7 68 (.pointer (some ⟨qs,1,none⟩)) rfl ak ?_;simp only[Act.put,sB,sZ,sS];refine tJ 8 69 (.slice (adr az) ses.length (ses.length+junks.length)) rfl ak ?_;simp only[Act.put,sB,sZ,sS];have tu:Bl w4 w4.drew:=(bQ w4.heap.size w4).drew;have ij:=tz.below tu;have oy:=mr.below tu;have cw:=aw.below tu;have Iv:∀x,ac=some x→x≠qs:=fun x e e'=>by
   have h1:=(ij.arr x e).1;rw[e']at h1;exact IsC.ne h1 oy.box (by decide) rfl
  have ul:aLW (.slice (adr az) ses.length (ses.length+junks.length)) ac:=fun gv o n c' e e'=>by
   have h2:=wm gv (by rw[←El.out];exact e');cases az with
   | none=>simp[adr]at e
   | some x=>
    simp only[adr,Option.map_some,Value.slice.injEq,sJ,Addr.mk.injEq]at e;have h3:=Ni x (by rw[←UO.out]);rw[e.1.1,h2]at h3;exact(rne g8).2.2.2 h3
  refine oE 9 rfl fun K2 ae=>?_;go_simp;refine(jU ac ces junkc ses (adr az) (ses.length+junks.length) 0 w4.drew (fun x e=>(ij.arr x e).1) ij.nil oy.esl ul (Nat.zero_le _) (by omega) (by have:=HC.out.2;have:=mn.out;omega) ij.small).mono ?_;rintro e W7 ⟨u,rfl,eS⟩;obtain⟨ua,un,uc,rfl⟩:∃ua un uc,u=.slice ua un uc:=by obtain⟨⟨a',j',e,_⟩,_⟩:=eS;exact⟨_,_,_,e⟩
  rw[show ces.take 0++ses++ces.drop 0=ses++ces by simp]at eS;have nn:W7.cell? ⟨qc,1,none⟩=some (.slice (adr ac) ces.length (ces.length+junkc.length))∧W7.cell? ⟨qs,1,none⟩=some (.slice (adr az) ses.length (ses.length+junks.length)):=⟨(dB (eS.frm.block qc ij.box.lt (fun e=>(ij.arr qc e).2 rfl)) 1).trans ak.1,(dB (eS.frm.block qs oy.box.lt (fun e=>Iv qs e rfl)) 1).trans ak.2⟩;obtain⟨a',-,ni,Al,-,vy⟩:=cw.ins (w1:=W7) (u:=.slice ua un uc) hd CZ (by rw[←El.out];exact eS);refine ae _ _ (fun _=>nn) ?_;clear ae K2 ak;refine oE 10 rfl fun K2 ae=>?_;go_simp;refine ae _ _ (fun _=>nn) ?_;clear ae K2;refine oE 11 rfl fun K2 ae=>?_;go_simp;refine ae _ _ (fun _=>nn) ?_;clear ae K2;obtain⟨Bu,-⟩:=nn;refine oE 12 rfl fun K2 ae=>?_;go_simp;refine ae _ _ (fun q=>absurd rfl q) ?_;clear ae K2 Bu vy;refine aS (by kernel_rfl) ?_ _;have tw:Mv (fun _=>False) w ρ (W7.setCell ⟨qc,1,none⟩ (.slice ua un uc)) (jC ρ a' c):=((Mv.of_below dm).trans (Mv.of_below tu) (fun _ _ e=>e)).trans Al (fun _ _ e=>e);generalize W7.setCell ⟨qc,1,none⟩ (.slice ua un uc)=W8 at *;have oh:(setN f c (k',ses++ces)).nodes b=some (2,es):=(bB _ _ ms).trans af;obtain⟨q',junkb8,e1,-,-,ig⟩:=ni.getNode oh;rw[show(dO A c a').φ b=some q from hφ]at e1;cases e1;have me:(dO A c a').α b=some g:=(aC _ _ ms).trans hg;rw[me]at ig;obtain⟨y,HY⟩:=exH (ky es i0);have ty:W8.cell? ⟨g,i0*3,none⟩=some (.string y):=by
   have:=(bG (ig.arr g rfl).1 (i:=i0) (by simp;omega)).1
   rw[gD,List.getElem?_append_left AL,←gD]at this;rw[HY.out];exact this
  obtain⟨vk,tk⟩:∃v,W8.cell? ⟨g,i*3,none⟩=some v:=⟨_,(bG (ig.arr g rfl).1 (i:=i) (by simp;omega)).1⟩;have tf:=(ig.arr g rfl).1.frozen (i*3);have og:=ig.setc (i:=i) (j:=0) (v:=.string y) (e':=(y,(es.getD i e0).2)) am (by omega) (by simp[aJ]);rw[Nat.add_zero]at og;obtain⟨py,CI⟩:=ni.nodeSame (w':=W8.setCell ⟨g,i*3,none⟩ (.string y)) oh hφ (Frm.set W8 (p:=⟨g,i*3,none⟩) (.inr me) _) (by rw[me];exact og);have np:W8.drew.cell? ⟨q,1,none⟩=some (.slice (some ⟨g,0,none⟩) es.length (es.length+junkb8.length))∧W8.drew.cell? ⟨g,i0*3,none⟩=some (.string y):=⟨by show W8.cell? _=_;rw[ig.box.cell];rfl,ty⟩;have Ly:=tw.trans CI (fun _ _ e=>e);clear og ig eS ij oy ty tw CI ni;go_wp2;refine aZ (fun W=>W.cell? ⟨q,1,none⟩=some (.slice (some ⟨g,0,none⟩) es.length (es.length+junkb8.length))∧W.cell? ⟨g,i0*3,none⟩=some (.string y)) 11 (by kernel_rfl) ?_;refine tJ 0 73 (.pointer (some ⟨q,0,none⟩)) rfl np ?_;simp only[Act.put,sB,sZ,sS];refine tJ 1 74 (.pointer (some ⟨q,0,none⟩)) rfl np ?_;simp only[Act.put,sB,sZ,sS];refine tJ 2 75 (.pointer (some ⟨q,1,none⟩)) rfl np ?_;simp only[Act.put,sB,sZ,sS];refine tJ 3 76 (.slice (some ⟨g,0,none⟩) es.length (es.length+junkb8.length)) rfl np ?_;simp only[Act.put,sB,sZ,sS];refine tJ 4 77 (.int .i64 i) rfl np ?_;simp only[Act.put,sB,sZ,sS];refine tJ 5 78 (.pointer (some ⟨g,i0*3,none⟩)) rfl np ?_;simp only[Act.put,sB,sZ,sS];refine tJ 6 79 (.pointer (some ⟨g,i0*3,none⟩)) rfl np ?_;simp only[Act.put,sB,sZ,sS];refine tJ 7 80 (.pointer (some ⟨g,i0*3,none⟩)) rfl np ?_;simp only[Act.put,sB,sZ,sS];refine tJ 8 81 (.string y) rfl np ?_;simp only[Act.put,sB,sZ,sS];refine oE 9 rfl fun K2 ae=>?_;go_simp;refine ae _ _ (fun _=>np) ?_;clear ae K2;refine oE 10 rfl fun K2 ae=>?_;go_simp;refine ae _ _ (fun _=>np) ?_;clear ae K2;refine oE 11 rfl fun K2 ae=>?_;go_simp;refine ae _ _ (fun q=>absurd rfl q) ?_;clear ae K2;refine aS (by kernel_rfl) ?_ _;have Fj:=py.below (bQ _ _).drew;have Gg:=Ly.trans (Mv.of_below (X:=fun _=>False) (bQ _ _).drew) (fun _ _ e=>e);clear py Ly np tk tf;generalize (W8.setCell ⟨g,i*3,none⟩ (.string y)).drew=W9 at *;obtain⟨es9,N1⟩:=exH (es.set i (y,(es.getD i e0).2));rw[←N1.out]at Fj;have OS:es9.length=es.length:=by rw[N1.out];simp
  have fu:(setN (setN f c (k',ses++ces)) b (2,es9)).nodes b=some (2,es9):=sQ _ _ _;obtain⟨q',junkb9,e1,-,-,Cl⟩:=Fj.getNode fu;rw[show(dO A c a').φ b=some q from hφ]at e1;cases e1;rw[me]at Cl;have Nq:=aA OS;have Tl:es9.getD i0 e0=es.getD i0 e0:=by
   rw[N1.out,bA _ _ _ _ _ am,if_neg (by have:=r9.out;omega)]
  have UX:=aA Tl;clear OS Tl;go_wp2_with fail;refine(gP q g 2 es9 junkb9 i0 W9 Cl (by have:=Nq.out;omega) (by have:=Nq.out;omega)).mono ?_;rintro e w9 ⟨rfl,⟨junkb10,Gh⟩,vz⟩;obtain⟨k1,v1,FM⟩:∃k1 v1,Hid (es9.getD i0 e0=(k1,v1,(s:Int))):=⟨(es.getD i0 e0).1,(es.getD i0 e0).2.1,by show _=_;rw[UX.out,←DF.out]⟩;rw[show aAC (es9.getD i0 e0)=.agg #[.string k1,.string v1,.int .i64 s] by rw[FM.out];rfl];obtain⟨Cn,Dk⟩:=Fj.nodeSame fu hφ (vz.wide fun x _ e=>by rcases e with e | e;exact .inl e;right;rw[me,e]) (by rw[me];exact Gh);rw[aES]at Cn;have JU:(setN (setN f c (k',ses++ces)) b (2,delE es9 i0)).nodes s=some (k',ses):=((bB _ _ (Ne.symm Ba)).trans (bB _ _ (Ne.symm g8))).trans iv;have DB:Sz K (setN (setN f c (k',ses++ces)) b (2,delE es9 i0)):=(hz.setN JL (by have:=HC.out.2;have:=mn.out;simp;omega)).setN d5 (by have:=bH es9 i0 (by have:=Nq.out;omega);have:=Nq.out;simp only;omega);have JP:cu (setN (setN f c (k',ses++ces)) b (2,delE es9 i0)) s=cu f s:=rfl;have DI:JS 0 f J (setN (setN f c (k',ses++ces)) b (2,delE es9 i0)) J:=(JS.setN _ Eg).trans (JS.setN _ qw);clear Cl Gh vz Fj;go_wp2_with fail;refine(nU w9 (jC ρ a' c) P (dO A c a') (setN (setN f c (k',ses++ces)) b (2,delE es9 i0)) J s (k',ses) Cn DB (by omega) (by omega) JU (by rw[JP];have:=hW.ic.cu_pos iv;omega) (fun x hx=>hW.ic.kid_lt iv hx) (aCW hW.ic iv)).mono ?_;rintro e w10 ⟨rfl,ρ10,J10,L6,Lx,Di,Ek⟩;have BC:AdS (fun _=>True) A (if cu (setN (setN f c (k',ses++ces)) b (2,delE es9 i0)) s=1 then gQ (dO A c a') s else dO A c a')∧(if cu (setN (setN f c (k',ses++ces)) b (2,delE es9 i0)) s=1 then gQ (dO A c a') s else dO A c a').φ b=A.φ b∧(if cu (setN (setN f c (k',ses++ces)) b (2,delE es9 i0)) s=1 then gQ (dO A c a') s else dO A c a').φ c=A.φ c:=by
   split
   ·exact⟨((AdS.arr A c a').trans (AdS.del _ s)).up fun _ _=>trivial,aC _ _ Ba,aC _ _ g8⟩
   ·exact⟨(AdS.arr A c a').top,rfl,rfl⟩
  generalize (if cu (setN (setN f c (k',ses++ces)) b (2,delE es9 i0)) s=1 then gQ (dO A c a') s else dO A c a')=A10 at *;have sk:Hid (fillLast f b i c=some (letGo (setN (setN f c (k',ses++ces)) b (2,delE es9 i0)) s)):=by
   show fillLast f b i c=_
   rw[HF.out,if_neg mn.out,N1.out,HY.out];rfl
  clear HF;have HR:=aA (show Dn 12 (fun _=>True) w ρ P A f J w10 ρ10 A10 (letGo (setN (setN f c (k',ses++ces)) b (2,delE es9 i0)) s) J10∧Sz (K+10) (letGo (setN (setN f c (k',ses++ces)) b (2,delE es9 i0)) s)from⟨⟨L6,(Gg.trans Dk (fun _ _ e=>e)).trans Lx (fun _ _ e=>e),(DI.trans Di).up (by omega),BC.1⟩,Ek⟩);have HA:=aA BC.2;clear BC Cn Dk Di Ek L6 Lx Gg;go_wp2;first | go_end0 | refine bodyPost_ret (results_none rfl _ _ _) rfl ?_
  obtain⟨BG,zg⟩:=HR.out;refine⟨fun q=>(by rw[sk.out]at q;cases q),fun g' rk=>?_⟩;rw[sk.out]at rk;cases rk;exact⟨rfl,_,_,J10,BG,HA.out.1,HA.out.2,zg⟩
theorem aGJ(w:World)(ρ:Nat→Nat)(P:Nat)(A:Adr)(f:fZ)(J:List aQ)(b:Nat)(h:St w ρ P A f J)(hz:Sz K f)(kz:J.length≤900000)(hb:b<f.cur.length):
  Calls Tryz.prog 123 #[.pointer (some ⟨P,0,none⟩),.int .i64 b] w fun e w'=>e=.returned (.tuple #[])∧∃ρ',St w' ρ' P (gQ A b) (freeB f b) (J++[(b,cu f b,f.nodes b)])∧Mv (fun _=>False) w ρ w' ρ'∧Frm (fun k=>ρ k=1∨ρ k=6∨ρ k=3∨ρ k=4) w w':=by
 obtain⟨ja,jp,jj,hR,hJ⟩:=id h;go_enter Tryz.func123,Tryz.ntmps123;go_wp2_with fail;refine(lR _ ρ P A f J b h hz hb kz).mono ?_;rintro e w2 ⟨rfl,ρ2,ax,lh,-,CU⟩;obtain⟨ja2,jp2,jj2,iu,ow⟩:=id ax;obtain⟨n3,n4,n5,n7⟩:=iu.cells;have CR:(b:Int) <(f.cur.length:Int):=by omega
 have jh:=iu.count hb;have Gt:w2.frozen? ⟨A.c,b,none⟩=false:=iu.hc.frozen b;obtain⟨aw,Gj⟩:=ax.setC (b:=b) hb 0;obtain⟨ja3,jp3,jj3,mh,sy⟩:=id aw;obtain⟨w5,FC,ng,el⟩:=mh.hm.del b (by have:=hz.n512;omega) 0;have o3:(w2.setCell ⟨A.c,b,none⟩ (.int .i64 0)).cell? ⟨P,3,none⟩=some (.map (some A.m)):=mh.cells.m3;obtain⟨cw,Ij⟩:=aw.del (b:=b) ng el;have Ln:Frm (fun k=>ρ k=1∨ρ k=6∨ρ k=3∨ρ k=4) w w5:=by
  refine((CU.wide fun x _ e=>by rcases e with e | e;exact .inl e;exact .inr (.inl e)).trans (Frm.set w2 (p:=⟨A.c,b,none⟩) (.inr (.inr (.inr hR.rc))) _)).next el (fun x _ e=>.inr (.inr (.inl (by rw[e];exact hR.rm))))
 have CD:=aA cw;have PC:=aA Ij;have La:=aA Gj;have Ga:=aA Ln;clear cw Ij Gj aw Ln;go_wp2;go_end0;exact⟨rfl,ρ2,CD.out,(lh.trans La.out (fun _ _ e=>e)).trans PC.out (fun _ _ e=>e),Ga.out⟩
structure SdP(w:World)(ρ:Nat→Nat)(P:Nat)(A:Adr)(f:fZ)(J:List aQ)(b:Nat)(key:ByteArray)(K:Int)(e:Ending)(w':World):Prop where
 no:stepDel f b key=none→Pk 24 w ρ P f J e w'
 yes:∀g c,stepDel f b key=some (g,c)→∃ρ' A' J' q,e=.returned (.pointer (some ⟨q,0,none⟩))∧A'.φ c=some q∧A'.φ b=A.φ b∧Dn 24 (fun _=>True) w ρ P A f J w' ρ' A' g J'∧Tch c J'∧Sz (K+20) g
theorem aBO(w:World)(ρ:Nat→Nat)(P:Nat)(A:Adr)(f:fZ)(J:List aQ)(t H:Nat)(Pt:List Nat)(b h:Nat)(lo hi:OB)(key:ByteArray)(q:Nat)(sd:St w ρ P A f J)(hW:Wk f t H)(hp:aN f t H Pt b (h+1) lo hi)(h2:2≤sz f.nodes b)(hφ:A.φ b=some q)(hz:Sz K f)(td:1≤K)(hK:K≤600000)(kz:J.length≤500000)(qw:Tch b J):
  Calls Tryz.prog 122 #[.pointer (some ⟨P,0,none⟩),.pointer (some ⟨q,0,none⟩),.string key] w (SdP w ρ P A f J b key K):=by
 obtain⟨es,af,qg,av⟩:=hp.inner hW;have N4:2≤es.length:=by unfold sz at h2;rw[af]at h2;exact h2
 have ft:=hz.ent b _ af;simp only at ft;have d5:b<f.cur.length:=hz.lt b _ af;obtain⟨q',junk,e1,wn,wl,hN⟩:=sd.getNode af;rw[hφ]at e1;cases e1;obtain⟨g,hg⟩:=hN.arrOf (by simp only;omega);rw[hg]at hN;have je:bK es key<es.length:=eE key av;have Mh:((bK es key:Nat):Int) <(es.length:Int):=by omega
 have HD:Hid (stepDel f b key=match shadow f (.ent b (bK es key))with
  | none=>none
  | some (g,c)=>
   if 2 <(Fo.look g c).2.length then some (g,c)else
   if bK es key+1 <(Fo.look g b).2.length then(fillNext g b (bK es key) c).map fun k=>(k,c)
   else(fillLast g b (bK es key) c).map fun k=>(k,c)):=by
  show stepDel f b key=_
  unfold stepDel;rw[aE af];rfl
 have lq:es.length+junk.length≤maxLen:=hN.small;go_enter Tryz.func122,Tryz.ntmps122;go_wp2_with fail;refine(gX q (2,es) (some g) junk key _ hN qg.srt ft).mono ?_;rintro e w2 ⟨rfl,cx⟩;have ax:=sd.below cx;have sc:=hN.below cx;have lh:Mv (fun _=>False) w ρ w2 ρ:=Mv.of_below cx;have c2:w2.cell? ⟨q,1,none⟩=some (.slice (some ⟨g,0,none⟩) es.length (es.length+junk.length)):=by rw[sc.box.cell];rfl
 clear hN cx;simp only at *;generalize hI:bK es key=i at *;have BL:dR f (.ent b i):=⟨d5,es,af,je⟩;have BK:gV A (.ent b i) ⟨g,i*3+2,none⟩:=⟨g,hg,rfl⟩;go_wp2_with fail;refine(iI w2 ρ P A f J (.ent b i) ⟨g,i*3+2,none⟩ ax hW.ic hz td (by omega) (by omega) BL BK (fun b' i' e=>by cases e;exact qw)).mono ?_;intro e w3 hT;cases al:shadow f (.ent b i)with
 | none=>
  obtain⟨rfl,ρ3,A3,g3,J3,a1,a2,a3⟩:=hT.no al;have kv:stepDel f b key=none:=by rw[HD.out,al]
  exact⟨rfl,fun _=>⟨rfl,ρ3,A3,g3,J3,a1,lh.trans a2 (fun _ _ e=>e),a3.up (by omega)⟩,fun g c bp=>by rw[kv]at bp;cases bp⟩
 | some gc=>
  obtain⟨g1,c⟩:=gc;obtain⟨ρ3,A3,J3,q3,rfl,Ay,bh,CL,vn⟩:=hT.yes g1 c al;obtain⟨w2',p2,p3,⟨es2,m1,m2,m3,m4⟩,m5,m6,m7,m8,m9⟩:=hW.shadow_ent hp af je al;obtain⟨⟨kc,ces⟩,hd⟩:=w2'.ic.live (x:=c) (by rw[m6];omega);have xl:2≤ces.length:=by
   have:=(p3.ok w2'.ok).2 (by simp);unfold sz at this;rw[hd]at this;exact this
  have ms:b≠c:=fun e=>by
   have hk:c∈kids (2,es2):=by rw[←m4];exact aP (by rw[m2];exact je)
   rw[←e]at hk;exact w2'.ic.not_self m1 hk
  have we:¬(b=c∨b=bI f (.ent b i)):=fun e=>by
   rcases e with e | e
   ·exact ms e
   ·have hk:bI f (.ent b i)∈kids (2,es):=by simp only[bI,aE af];exact gM je
    rw[←e]at hk;exact hW.ic.not_self af hk
  have GW:A3.φ b=some q:=by rw[bh.ad.φ b we];exact hφ
  obtain⟨q3',junk3,e1,UH,Nh,q7⟩:=bh.st.getNode hd;rw[Ay]at e1;cases e1;obtain⟨qb',junkb,e1,-,-,Pr⟩:=bh.st.getNode m1;rw[GW]at e1;cases e1;obtain⟨ab,pz⟩:∃ab,ab=A3.α b:=⟨_,rfl⟩;rw[←pz]at Pr;clear pz;have Ca:Hid (stepDel f b key=if 2<ces.length then some (g1,c)else if i+1<es2.length then(fillNext g1 b i c).map fun k=>(k,c)else(fillLast g1 b i c).map fun k=>(k,c)):=by
   have:=HD.out
   rw[al]at this;simp only[aE hd,aE m1]at this;exact this
  clear HD;have ci:Dn 12 (fun _=>True) w ρ P A f J w3 ρ3 A3 g1 J3:=⟨bh.st,lh.trans bh.mv (fun _ _ e=>e),bh.js.up (by omega),bh.ad.top⟩;have Ez:Tch b J3:=bh.js.tch b qw;have sy:J3.length≤500012:=by have:=bh.js.len;omega
  clear hT bh;by_cases kw:2<ces.length
  ·have AG:decide (2<ces.length)=true:=by simpa using kw
   have mn:=aA kw;clear kw;go_wp2_with fail;refine(fV q3 (kc,ces) _ junk3 _ q7).mono ?_;rintro e w4 ⟨rfl,cn⟩;rw[cn];clear cn w4;go_wp2;go_ret;refine⟨fun q=>(by rw[Ca.out,if_pos mn.out]at q;cases q),fun g' c' bp=>?_⟩;rw[Ca.out,if_pos mn.out]at bp;cases bp;exact⟨ρ3,A3,J3,q3,rfl,Ay,GW.trans hφ.symm,⟨ci.st,ci.mv,ci.js.up (by omega),ci.ad⟩,CL,vn.up (by omega)⟩
  ·have AG:decide (2<ces.length)=false:=by simpa using kw
   have jg:ces.length=2:=by omega
   have mn:=aA (aI kw jg);clear kw jg;have c3:w3.cell? ⟨q,1,none⟩=some (.slice (adr ab) es2.length (es2.length+junkb.length)):=by rw[Pr.box.cell];rfl
   have XM:es2.length+junkb.length≤maxLen:=Pr.small;obtain⟨i1,r9⟩:=exH (i+1);have wj:IntKind.i64.wrap ((i:Int)+1)=(i1:Int):=by
    have:=r9.out
    rw[IntWalk.i64_in _ ⟨by omega,by omega⟩];omega
   have Gy:es2.length≤9223372036854775807:=by rw[m2];omega
   have HM:=aA (aI m2 m4);have HB:=aA xl;clear m2 m4 xl;by_cases ai:i1<es2.length
   ·have C0:((i1:Nat):Int) <(es2.length:Int):=by omega
    go_wp2_with fail
    refine(fV q3 (kc,ces) _ junk3 _ q7).mono ?_;rintro e w4 ⟨rfl,cn⟩;rw[cn];clear cn w4;go_wp2_with fail;refine(yJ (K:=K+10) w3 ρ3 P A3 g1 J3 t H Pt b h lo hi es2 i c kc ces q q3 ci.st w2' p2 m1 (by have:=r9.out;omega) HM.out.2.symm hd m6 mn.out.2 GW Ay vn (by omega) (by omega) (by omega) Ez CL).mono ?_;intro e w5 hF;cases tj:fillNext g1 b i c with
    | none=>
     obtain⟨rfl,ρ5,A5,g5,J5,a1,a2,a3⟩:=hF.no tj;have kv:stepDel f b key=none:=by rw[Ca.out,if_neg mn.out.1,if_pos (by have:=r9.out;omega),tj];rfl
     exact⟨rfl,fun _=>⟨rfl,ρ5,A5,g5,J5,a1,ci.mv.trans a2 (fun _ _ e=>e),(ci.js.trans a3).up (by omega)⟩,fun g c bp=>by rw[kv]at bp;cases bp⟩
    | some g5=>
     obtain⟨rfl,ρ5,A5,J5,sm,et,EI,Af⟩:=hF.yes g5 tj;have fq:stepDel f b key=some (g5,c):=by rw[Ca.out,if_neg mn.out.1,if_pos (by have:=r9.out;omega),tj];rfl
     have HR:=aA (show Dn 24 (fun _=>True) w ρ P A f J w5 ρ5 A5 g5 J5∧Tch c J5∧Sz (K+20) g5 from⟨⟨sm.st,ci.mv.trans sm.mv (fun _ _ e=>e),(ci.js.trans sm.js).up (by omega),(ci.ad.trans sm.ad).up fun _ _=>trivial⟩,sm.js.tch c CL,Af.up (by omega)⟩);have HY:=aA fq;clear fq hF sm Af ci;go_wp2;go_ret;obtain⟨BG,P6,zg⟩:=HR.out;refine⟨fun q=>(by rw[HY.out]at q;cases q),fun g' c' bp=>?_⟩;rw[HY.out]at bp;cases bp;exact⟨ρ5,A5,J5,q3,rfl,EI.trans Ay,(et.trans GW).trans hφ.symm,BG,P6,zg⟩
   ·have C0:¬((i1:Nat):Int) <(es2.length:Int):=by omega
    go_wp2_with fail
    refine(fV q3 (kc,ces) _ junk3 _ q7).mono ?_;rintro e w4 ⟨rfl,cn⟩;rw[cn];clear cn w4;go_wp2_with fail;refine(yH (K:=K+10) w3 ρ3 P A3 g1 J3 t H Pt b h lo hi es2 i c kc ces q q3 ci.st w2' p2 m1 (by have:=r9.out;have:=HM.out.1;omega) (by have:=HM.out.1;omega) HM.out.2.symm hd m6 mn.out.2 GW Ay vn (by omega) (by omega) (by omega) Ez CL).mono ?_;intro e w5 hF;cases tj:fillLast g1 b i c with
    | none=>
     obtain⟨rfl,ρ5,A5,g5,J5,a1,a2,a3⟩:=hF.no tj;have kv:stepDel f b key=none:=by rw[Ca.out,if_neg mn.out.1,if_neg (by have:=r9.out;omega),tj];rfl
     exact⟨rfl,fun _=>⟨rfl,ρ5,A5,g5,J5,a1,ci.mv.trans a2 (fun _ _ e=>e),(ci.js.trans a3).up (by omega)⟩,fun g c bp=>by rw[kv]at bp;cases bp⟩
    | some g5=>
     obtain⟨rfl,ρ5,A5,J5,sm,et,EI,Af⟩:=hF.yes g5 tj;have fq:stepDel f b key=some (g5,c):=by rw[Ca.out,if_neg mn.out.1,if_neg (by have:=r9.out;omega),tj];rfl
     have HR:=aA (show Dn 24 (fun _=>True) w ρ P A f J w5 ρ5 A5 g5 J5∧Tch c J5∧Sz (K+20) g5 from⟨⟨sm.st,ci.mv.trans sm.mv (fun _ _ e=>e),(ci.js.trans sm.js).up (by omega),(ci.ad.trans sm.ad).up fun _ _=>trivial⟩,sm.js.tch c CL,Af.up (by omega)⟩);have HY:=aA fq;clear fq hF sm Af ci;go_wp2;go_ret;obtain⟨BG,P6,zg⟩:=HR.out;refine⟨fun q=>(by rw[HY.out]at q;cases q),fun g' c' bp=>?_⟩;rw[HY.out]at bp;cases bp;exact⟨ρ5,A5,J5,q3,rfl,EI.trans Ay,(et.trans GW).trans hφ.symm,BG,P6,zg⟩
structure RmP(k:Nat)(L:Int)(w:World)(ρ:Nat→Nat)(P:Nat)(A:Adr)(f:fZ)(J:List aQ)(r:Option fZ)(e:Ending)(w':World):Prop where
 no:r=none→Pk k w ρ P f J e w'
 yes:∀g,r=some g→e=.returned (.tuple #[])∧∃ρ' A' J',Dn k (fun _=>True) w ρ P A f J w' ρ' A' g J'∧Sz L g
structure RmR(w:World)(ρ:Nat→Nat)(P:Nat)(A:Adr)(f:fZ)(J:List aQ)(K:Int)(t H:Nat)(key:ByteArray)(r:Option fZ)(h:Nat)(v:Value)(W:World):Prop where
 le:h≤H
 ex:∃q b ρ' A' f' J' H' Pt lo hi,v=.pointer (some ⟨q,0,none⟩)∧A'.φ b=some q∧Dn (12+25*(H-h)) (fun _=>True) w ρ P A f J W ρ' A' f' J'∧Sz (K+10+20*((H-h:Nat):Int)) f'∧Wk f' t H'∧aN f' t H' Pt b h lo hi∧(Pt≠[]→3≤sz f'.nodes b)∧cD f' t H'∧Mem f'.nodes h b key∧Tch b J'∧delAt h f' t b key=r
theorem aEK(w:World)(ρ:Nat→Nat)(P:Nat)(A:Adr)(f:fZ)(J:List aQ)(t H:Nat)(key:ByteArray)(sd:St w ρ P A f J)(hW:Wk f t H)(er:cD f t H)(jy:Mem f.nodes H (aB f t) key)(hz:Sz K f)(td:1≤K)(hK:K+20*(H+3)≤600000)(kz:J.length+25*(H+3)≤500000):
  Calls Tryz.prog 102 #[.pointer (some ⟨P,0,none⟩),.pointer (some ⟨A.ra,t*2+1,none⟩),.string key] w (RmP (25*(H+3)) (K+20*(H+3)) w ρ P A f J (bV f t H key)):=by
 have hL:dR f (.root t):=hW.tl;have Pn:gV A (.root t) ⟨A.ra,t*2+1,none⟩:=rfl;go_enter Tryz.func102,Tryz.ntmps102;go_wp2_with fail;refine(iI w ρ P A f J (.root t) ⟨A.ra,t*2+1,none⟩ sd hW.ic hz td (by omega) (by omega) hL Pn (fun b i e=>by cases e)).mono ?_;intro e w3 hT;cases al:shadow f (.root t)with
 | none=>
  obtain⟨rfl,ρ3,A3,g3,J3,a1,a2,a3⟩:=hT.no al;have kv:bV f t H key=none:=by simp only[bV,al]
  exact⟨rfl,fun _=>⟨rfl,ρ3,A3,g3,J3,a1,a2,a3.up (by omega)⟩,fun g bp=>by rw[kv]at bp;cases bp⟩
 | some gc=>
  obtain⟨g1,r⟩:=gc;obtain⟨ρ3,A3,J3,q3,rfl,Ay,bh,CL,vn⟩:=hT.yes g1 r al;obtain⟨w1,p1,a1,a2,a3,a4,a5,a6⟩:=hW.shadow_root al;have Ms:Mem g1.nodes H r key:=(hW.shadow_root_mem al key H).1 jy;have HD:Hid (bV f t H key=delAt H g1 t r key):=by
   show bV f t H key=_
   simp only[bV,al]
  obtain⟨m,vj,oa⟩:=lN (RmR w ρ P A f J K t H key (bV f t H key));have Cc:=aA vj;have En:=aA oa;have HX:=aA (aI hK kz);have DQ:∃h0,RmR w ρ P A f J K t H key (bV f t H key) h0 (.pointer (some ⟨q3,0,none⟩)) w3:=
   ⟨H,nR _,q3,r,ρ3,A3,g1,J3,H,_,_,_,rfl,Ay,⟨bh.st,bh.mv,bh.js.up (by omega),bh.ad.top⟩,vn.up (by omega),w1,p1,fun q=>absurd rfl q,a5 er,Ms,CL,HD.out.symm⟩
  clear vj oa hK kz bh hT HD;go_wp2;go_loopw [6] (fun v wr=>∃h,RmR w ρ P A f J K t H key (bV f t H key) h v wr) (fun v wr=>m v wr)
  case atStart=>exact DQ
  case round=>
   obtain⟨h',Ey⟩:=hrel;have hR:=Cc.out _ _ _ Ey;clear Ey DQ;obtain⟨h,Hh⟩:=exH (m u6 wr);rw[←Hh.out]at hR;obtain⟨ph,q,b,ρ4,A4,f4,J4,H',Pt,lo,hi,rfl,rz,bh,i9,w4,p4,h3,ND,Gz,Ez,xm⟩:=hR;have mq:=aA ph;have Nm:=aA xm;clear ph xm;cases h with
   | succ h=>
    obtain⟨es,af,qg,av⟩:=p4.inner w4;obtain⟨q',junk,e1,wn,wl,hN⟩:=bh.st.getNode af;rw[rz]at e1;cases e1;have U6:2≤sz f4.nodes b:=by
     by_cases hP:Pt=[]
     ·rcases p4.top with⟨_,q,q'⟩ | ⟨q,_⟩
      ·rcases ND with hr | hr
       ·omega
       ·rw[←q]at hr;exact hr
      ·rw[hP]at q;cases q
     ·have:=h3 hP;omega
    have c0:wr.cell? ⟨q,0,none⟩=some (.int .i64 2):=by rw[hN.box.cell];rfl
    go_wp2_with fail
    refine(aBO (K:=K+10+20*((H -(h+1):Nat):Int)) wr ρ4 P A4 f4 J4 t H' Pt b h lo hi key q bh.st w4 p4 U6 rz i9 (by omega) (by have:=HX.out;have:=mq.out;omega) (by have:=HX.out;have:=bh.js.len;have:=mq.out;omega) Ez).mono ?_;intro e w5 hS;cases mm:stepDel f4 b key with
    | none=>
     obtain⟨rfl,ρ5,A5,g5,J5,b1,b2,b3⟩:=hS.no mm;have kv:bV f t H key=none:=by rw[←Nm.out];unfold delAt;rw[mm]
     exact⟨rfl,fun _=>⟨rfl,ρ5,A5,g5,J5,b1,bh.mv.trans b2 (fun _ _ e=>e),(bh.js.trans b3).up (by have:=mq.out;omega)⟩,fun g bp=>by rw[kv]at bp;cases bp⟩
    | some gc=>
     obtain⟨g5,c5⟩:=gc;obtain⟨ρ5,A5,J5,q5,rfl,Oa,SG,mo,Ih,Af⟩:=hS.yes g5 c5 mm;have Ht:A5.φ b=some q:=SG.trans rz;have sm:Dn (12+25*(H -(h+1))+24) (fun _=>True) w ρ P A f J w5 ρ5 A5 g5 J5:=⟨mo.st,bh.mv.trans mo.mv (fun _ _ e=>e),bh.js.trans mo.js,(bh.ad.trans mo.ad).up fun _ _=>trivial⟩;have Ve:Tch b J5:=mo.js.tch b Ez;rcases aAO w4 p4 h3 ND Gz mm with⟨es5,n1,n2,n3,n4,⟨P',lo',am,n5⟩,n6,n7,n8⟩ | ⟨e5,n1,n2,n3,n4,n5,n6,H5,n7,n8,n9,n10⟩
     ·obtain⟨q',junk5,e1,-,-,iy⟩:=mo.st.getNode n1
      rw[Ht]at e1;cases e1;obtain⟨ab,pz⟩:∃ab,ab=A5.α b:=⟨_,rfl⟩;rw[←pz]at iy;have c5':w5.cell? ⟨q,1,none⟩=some (.slice (adr ab) es5.length (es5.length+junk5.length)):=by rw[iy.box.cell];rfl
      have XL:es5.length+junk5.length≤maxLen:=iy.small;have Wn:((es5.length:Int) == 1)=false:=by simp;omega
      have lw:RmR w ρ P A f J K t H key (bV f t H key) h (.pointer (some ⟨q5,0,none⟩)) w5:=
       ⟨by have:=mq.out;omega,q5,c5,ρ5,A5,g5,J5,H',P',lo',am,rfl,Oa,⟨sm.st,sm.mv,sm.js.up (by have:=mq.out;omega),sm.ad⟩,Af.up (by have:=mq.out;omega),n4,n5,fun _=>n6,n7,n8,Ih,by rw[←n3];exact Nm.out⟩
      clear hS mo bh sm iy pz n2 n3;go_wp2;go_roundw
      case rel=>exact⟨h,lw⟩
      case measure=>
       have h1:=En.out _ _ _ lw;have h2:=Hh.out;exact Nat.lt_of_le_of_lt h1 (by show h<m _ _;rw[←h2];exact Nat.lt_succ_self h)
     ·obtain⟨q',junk5,e1,SE,SC,iy⟩:=mo.st.getNode n1
      rw[Ht]at e1;cases e1;obtain⟨gb,OO⟩:=iy.arrOf (by simp);rw[OO]at iy;have c5':w5.cell? ⟨q,1,none⟩=some (.slice (some ⟨gb,0,none⟩) 1 (1+junk5.length)):=by rw[iy.box.cell];rfl
      have Ky:A5.ra=A.ra:=sm.ad.ra;have h0:0≤(g5.roots.getD t (0,0)).2:=(n5.rb _ (aO n4)).1;obtain⟨EI,-⟩:=mo.st.rootCell n4 h0;rw[←n3,Ky]at EI;have pp:c5≠b:=fun e=>by
       have hk:c5∈kids (2,[e5]):=by rw[←n2];simp[kids]
       rw[e]at hk;exact n5.not_self n1 hk
      have ED:b<g5.cur.length:=Af.lt b _ n1;have MQ:e5.2.2=(c5:Int):=by
       have:=n5.child_pos n1 (j:=0) (by simp)
       rw[←n2];unfold ch;have e6:([e5]:List E3).getD 0 e0=e5:=rfl;rw[e6]at this;omega
      have HN:=aA (aI n1 (aI n3 n6));have Et:=sm.js.len;clear n3 n6;go_wp2_with fail;refine(aGJ w5 ρ5 P A5 g5 J5 b mo.st Af (by have:=HX.out;have:=mq.out;omega) ED).mono ?_;rintro e w6 ⟨rfl,ρ6,la,BM,Ci⟩;have lv:∀x,(x=cE b∨x=cB b)→¬(x=1∨x=6∨x=3∨x=4):=fun x e=>by unfold cE cB at e;omega
      have yw:aM w6 q (2,[e5]) (some gb) junk5:=iy.frm Ci (by rw[SE];exact lv _ (.inl rfl)) (fun x e=>by cases e;rw[SC gb OO];exact lv _ (.inr rfl));have c6:w6.cell? ⟨q,1,none⟩=some (.slice (some ⟨gb,0,none⟩) 1 (1+junk5.length)):=by rw[yw.box.cell];rfl
      have c7:w6.cell? ⟨gb,2,none⟩=some (.int .i64 c5):=by
       have:=(bG (yw.arr gb rfl).1 (i:=0) (by simp)).2.2
       rw[show(([e5]++junk5:List E3).getD 0 e0)=e5 from rfl,MQ]at this;simpa using this
      have Pj:dR (freeB g5 b) (.root t):=n4;obtain⟨vr,c8,YD,-⟩:=la.locCell Pj (p:=⟨A.ra,t*2+1,none⟩) (by show _=_;rw[←Ky];rfl);obtain⟨iz,S7⟩:=la.setLoc Pj (p:=⟨A.ra,t*2+1,none⟩) (by show _=_;rw[←Ky];rfl) c5;have Ho:Sz (K+10+20*((H -(h+1):Nat):Int)+20) (setL (freeB g5 b) (.root t) c5):=by
       have ry:Sz (K+10+20*((H -(h+1):Nat):Int)+20) (freeB g5 b):=(Af.setC b (v:=0) (by omega) (by omega)).noN b;exact ry.setL Pj c5
      have Pf:JS (12+25*(H -(h+1))+24+1+0+0) f J (setL (freeB g5 b) (.root t) c5) (J5++[(b,cu g5 b,g5.nodes b)]):=((sm.js.trans (JS.save ED)).trans (JS.freeB Tch.saved)).trans (JS.setL (.root t) c5 fun b' i' e=>(by cases e));have TP:Tch c5 (J5++[(b,cu g5 b,g5.nodes b)]):=(JS.save ED).tch c5 Ih;have Gs:setL (freeB g5 b) (.root t) c5=fallF g5 t (aB g5 t) c5:=by rw[←HN.out.2.1];rfl
      rw[Gs]at iz Ho Pf;have Le:AdS (fun _=>True) A (gQ A5 b):=(sm.ad.trans (AdS.del A5 b)).up fun _ _=>trivial;have lw:RmR w ρ P A f J K t H key (bV f t H key) h (.pointer (some ⟨q5,0,none⟩)) (w6.setCell ⟨A.ra,t*2+1,none⟩ (.int .i64 (c5:Int))):=
       ⟨by have:=mq.out;omega,q5,c5,ρ6,gQ A5 b,_,_,H5,[],none,none,rfl,(aC _ _ pp).trans Oa,⟨iz,(sm.mv.trans BM (fun _ _ e=>e)).trans S7 (fun _ _ e=>e),Pf.up (by have:=mq.out;omega),Le⟩,Ho.up (by have:=mq.out;omega),n7,n8,fun q=>absurd rfl q,n9,n10,TP,by rw[←HN.out.2.2];exact Nm.out⟩
      clear hS mo bh sm iy yw la iz BM S7 Ci Ho Pf TP Gs Le MQ;go_wp2;go_roundw
      case rel=>exact⟨h,lw⟩
      case measure=>
       have h1:=En.out _ _ _ lw;have h2:=Hh.out;exact Nat.lt_of_le_of_lt h1 (by show h<m _ _;rw[←h2];exact Nat.lt_succ_self h)
   | zero=>
    obtain⟨es,af,qg,xl⟩:=p4.leaf w4;obtain⟨es',e1,j,hj,hk⟩:=Gz;rw[af]at e1;cases e1;have ai:cLt es key<es.length:=by rw[(jT qg.srt hj hk).2];exact hj
    obtain⟨q',junk,e1,wn,wl,hN⟩:=bh.st.getNode af;rw[rz]at e1;cases e1;have ft:=i9.ent b _ af;simp only at ft;have d5:b<f4.cur.length:=i9.lt b _ af;obtain⟨g,hg⟩:=hN.arrOf (by simp only;omega);rw[hg]at hN;have Ea:bV f t H key=some (setN f4 b (1,delE es (cLt es key))):=by rw[←Nm.out];unfold delAt;rw[aE af]
    have Ag:=aA Ea;clear Ea;have c0:wr.cell? ⟨q,0,none⟩=some (.int .i64 1):=by rw[hN.box.cell];rfl
    have c1:wr.cell? ⟨q,1,none⟩=some (.slice (some ⟨g,0,none⟩) es.length (es.length+junk.length)):=by rw[hN.box.cell];rfl
    have Fc:NRd wr (.slice (some ⟨g,0,none⟩) es.length (es.length+junk.length)) es:=hN.esl.nrd;go_wp2_with fail;refine(iD _ es key _ Fc (by omega) qg.srt).mono ?_;rintro e w5 ⟨c9,he⟩;have E4:e=.returned (.tuple #[.int .i64 (cLt es key),.bool (fD es key)]):=he;subst E4;have cw:=bh.st.below c9;have iy:=hN.below c9;obtain⟨i,HI⟩:=exH (cLt es key);rw[←HI.out]at ai ⊢;clear hN Fc c0 c1;go_wp2_with fail;refine(gP q g 1 es junk i w5 iy ft ai).mono ?_;rintro e w6 ⟨rfl,⟨junk6,yw⟩,Ci⟩;obtain⟨la,BM⟩:=cw.nodeSame af rz (Ci.wide fun x _ e=>by rcases e with e | e;exact .inl e;right;rw[hg,e]) (by rw[hg];exact yw);rw[HI.out]at la;have HF:=aA (show Dn (25*(H+3)) (fun _=>True) w ρ P A f J w6 ρ4 A4 (setN f4 b (1,delE es (cLt es key))) J4∧Sz (K+20*(H+3)) (setN f4 b (1,delE es (cLt es key)))from
     ⟨⟨la,(bh.mv.trans (Mv.of_below c9) (fun _ _ e=>e)).trans BM (fun _ _ e=>e),(bh.js.trans (JS.setN _ Ez)).up (by omega),bh.ad⟩,(i9.up (by omega)).setN d5 (by have:=bH es (cLt es key) (by rw[←HI.out];exact ai);simp only;omega)⟩)
    clear la BM yw Ci cw iy bh;go_wp2;first | go_end0 | refine bodyPost_ret (results_none rfl _ _ _) rfl ?_
    obtain⟨BG,zg⟩:=HF.out;refine⟨fun q=>(by rw[Ag.out]at q;cases q),fun g' rk=>?_⟩;rw[Ag.out]at rk;cases rk;exact⟨rfl,_,_,J4,BG,zg⟩
