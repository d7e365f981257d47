import Derived.Test.YtaahkgkdpnnhhaaGreatHq9
set_option maxHeartbeats 9999999
set_option maxRecDepth 99999
set_option linter.all false
namespace Go.Proofs.YtaahkgkdpnnhhaaGreat
open Go.RowKit Fo
theorem aDZ{l:List E3}(h:0<l.length):l.drop (l.length-1)=[l.getD (l.length-1) e0]:=by
 have hl:l.length-1<l.length:=by omega
 rw[List.drop_eq_getElem_cons hl,List.drop_of_length_le (by omega),gD,gE hl];rfl
theorem aFB(f:fZ)(b:Nat)(d e:Nd):setN (setN f b d) b e=setN f b e:=by
 have:upd (upd f.nodes b (some d)) b (some e)=upd f.nodes b (some e):=funext fun x=>by by_cases h:x=b<;>simp[upd,h]
 unfold setN;simp only;rw[this]
theorem yM{K:Int}(w:World)(ρ:Nat→Nat)(P:Nat)(A:Adr)(f:fZ)(J:List aQ)(t H:Nat)(Pt:List Nat)(b h:Nat)(lo hi:OB)(es:List E3)(i c:Nat)(kk:Int)(ces:List E3)(q qc:Nat)(sb:St w ρ P A f J)(hW:Wk f t H)(hp:aN f t H Pt b (h+1) lo hi)(af:f.nodes b=some (2,es))(Gv:0<i)(ak:i<es.length)(hc:c=kd es i)(hd:f.nodes c=some (kk,ces))(cc:cu f c=1)(au:ces.length=2)(hφ:A.φ b=some q)(CZ:A.φ c=some qc)(hz:Sz K f)(sw:1≤K)(hK:K≤700000)(ku:J.length≤600000)(qv:Tch b J)(Ei:Tch c J):
  Calls Tryz.prog 143 #[.pointer (some ⟨P,0,none⟩),.pointer (some ⟨q,0,none⟩),.int .i64 i,.pointer (some ⟨qc,0,none⟩)] w (FlP w ρ P A f J b c (fillLast f b i c) K):=by
 have ll:=qP;have Jd:=aCN;obtain⟨i0,ry⟩:=exH (i-1);have fj:=hz.ent b _ af;simp only at fj;have AN:i0<es.length:=by rw[ry.out];omega
 obtain⟨s,Hs⟩:=exH (kd es i0);have tj:s∈kids (2,es):=by rw[Hs.out];exact aP AN
 have fi:c∈kids (2,es):=by rw[hc];exact aP ak
 obtain⟨⟨k',ses⟩,iu⟩:=hW.ic.kid_live af tj;obtain⟨es0,q1,e2,e3,e4,e5⟩:=(hp.ok hW.ok).1;rw[af]at q1;cases q1;have ow:k'=kk:=by
  have BN:=(dK (hc▸hd)).1 (e5 i (by omega)).2;have Ao:=(dK (Hs.out▸iu)).1 (e5 i0 AN).2;cases h with
  | zero=>have a1:=BN.1;have a2:=Ao.1;simp only at a1 a2;omega
  | succ h=>have a1:=BN.1;have a2:=Ao.1;simp only at a1 a2;omega
 subst ow;have ti:2≤ses.length:=by have:=(e5 i0 AN).1;unfold sz at this;rw[←Hs.out,iu]at this;exact this
 have C2:=hz.ent s _ iu;simp only at C2;have iN:c≠s:=fun e=>by
  rw[hc,Hs.out]at e;have:=dU (hW.ic.only (hc▸cc) af (hc▸fi)).2.1 (by omega) AN e.symm;have:=ry.out;omega
 have BY:b≠s:=fun e=>hW.ic.not_self af (e▸tj);have nz:b≠c:=fun e=>hW.ic.not_self af (e▸fi);have d9:b<f.cur.length:=hz.lt b _ af;have JM:c<f.cur.length:=hz.lt c _ hd;have eS:s<f.cur.length:=hz.lt s _ iu;have Ba:(es.getD i0 e0).2.2=(s:Int):=by
  have h1:=hW.ic.child_pos af AN;rw[Hs.out];unfold kd ch;omega
 obtain⟨q',junk,e1,ww,wu,hN⟩:=sb.getNode af;rw[hφ]at e1;cases e1;obtain⟨g,hg⟩:=hN.arrOf (by simp only;omega);rw[hg]at hN;obtain⟨qs,junks,SJ,SH,Nl,Ez⟩:=sb.getNode iu;obtain⟨ja,jp,jj,hR,hJ⟩:=id sb;have m3:=hR.cells.m3;have c1:w.cell? ⟨q,1,none⟩=some (.slice (some ⟨g,0,none⟩) es.length (es.length+junk.length)):=by rw[hN.box.cell];rfl
 have c2:w.cell? ⟨g,i0*3+2,none⟩=some (.int .i64 s):=by
  have:=(bF (hN.arr g rfl).1 (i:=i0) (by simp;omega)).2.2
  rw[gD,List.getElem?_append_left AN,←gD]at this;rw[Ba]at this;exact this
 have gx:∀n,(Instr.lookup 68 (.map (some A.m)) (.int .i64 s) false).run Tryz.prog (w.drewN n)=.ok (.pointer (some ⟨qs,0,none⟩)) (w.drewN n):=fun n=>by
  have:=(hR.hm.of (w':=w.drewN n) rfl).lookup s (by have:=hz.n512;omega)
  rw[SJ]at this;simpa only[eT,Option.map_some] using this
 have wt:IntKind.i64.wrap ((i:Int)-1)=(i0:Int):=by
  have:=ry.out
  rw[IntWalk.i64_in _ ⟨by omega,by omega⟩];omega
 have FA:((i0:Nat):Int) <(es.length:Int):=by omega
 have ci:((i:Nat):Int) <(es.length:Int):=by omega
 have HF:Hid (fillLast f b i c=if 2<ses.length then
   match shadow f (.ent b i0)with
   | none=>none
   | some (k,s)=>some (moveF k b s c (Fo.look k c).1 ((Fo.look k s).2.take ((Fo.look k s).2.length-1)) ((Fo.look k s).2.drop ((Fo.look k s).2.length-1)++(Fo.look k c).2) ((Fo.look k b).2.set i (ky (Fo.look k s).2 ((Fo.look k s).2.length-1),((Fo.look k b).2.getD i e0).2)))
  else some (mergeF f b c s k' (ses++ces) (delE (es.set i (ky es i0,(es.getD i e0).2)) i0))):=by
  show fillLast f b i c=_
  unfold fillLast;rw[aE af];simp only;rw[←ry.out,←Hs.out,aE iu,aE hd];rfl
 have HC:=aA (aI hc au);have DD:=aA Ba;clear hc au Ba;go_enter Tryz.func143,Tryz.ntmps143;go_wp2;go_quiet (fail);clear gx c2 m3;by_cases kr:2<ses.length
 ·have AI:decide (2<ses.length)=true:=by simpa using kr
  have mm:=aA kr;clear kr c1;go_wp2_with fail;refine(fW qs (k',ses) _ junks _ (Ez.below (below_drewN _ _))).mono ?_;rintro e w4 ⟨rfl,cn⟩;rw[cn];clear cn w4;have BL:dO f (.ent b i0):=⟨d9,es,af,AN⟩;have BK:gS A (.ent b i0) ⟨g,i0*3+2,none⟩:=⟨g,hg,rfl⟩;go_wp2_with fail;refine(iE _ ρ P A f J (.ent b i0) ⟨g,i0*3+2,none⟩ (sb.below (below_drewN _ _)) hW.ic hz sw (by omega) (by omega) BL BK (fun b' i' e=>by cases e;exact qv)).mono ?_;intro e w4 hT;cases al:shadow f (.ent b i0)with
  | none=>
   obtain⟨rfl,ρ4,A4,g4,J4,a1,a2,a3⟩:=hT.no al;have kq:fillLast f b i c=none:=by rw[HF.out,if_pos mm.out,al]
   exact⟨rfl,fun _=>⟨rfl,ρ4,A4,g4,J4,a1,(Mv.of_below (below_drewN _ _)).trans a2 (fun _ _ e=>e),a3.up (by omega)⟩,fun g bp=>by rw[kq]at bp;cases bp⟩
  | some gc=>
   obtain⟨f4,s4⟩:=gc;obtain⟨ρ4,A4,J4,qs4,rfl,rx,ce,BP,i5⟩:=hT.yes f4 s4 al;have bg:Dn 12 (fun x=>x=s4∨x=bJ f (.ent b i0)) w ρ P A f J w4 ρ4 A4 f4 J4:=⟨ce.st,(Mv.of_below (below_drewN _ _)).trans ce.mv (fun _ _ e=>e),ce.js,ce.ad⟩;clear ce hT;obtain⟨w2,p2,p3,⟨es2,m1,m2,m3,m4⟩,m5,m6,m7,m8,m9⟩:=hW.shadow_ent hp af AN al;obtain⟨s1,s2,s3⟩:=hW.shadow_sib hp af AN al;rw[←Hs.out]at m5 s1 s2;obtain⟨x1,x2,x3⟩:=s2 _ fi iN;have Gp:f4.nodes c=some (k',ces):=by rw[x1];exact hd
   have xu:f4.nodes s4=some (k',ses):=by rw[m5];exact iu
   have KM:s4∈kids (2,es2):=by rw[←m4];exact aP (by rw[m2];exact AN)
   have EE:b≠s4:=fun e=>w2.ic.not_self m1 (e▸KM);have mi:kd es2 i=c:=by rw[HC.out.1];unfold kd;rw[(s3 es2 m1 i).2 (by have:=ry.out;omega)]
   have xq:c≠s4:=fun e=>by
    rw[←mi,←m4]at e;have JK:kd es2 i∈kids (2,es2):=aP (by rw[m2];omega);have:=dU (w2.ic.only (by rw[mi,x2];exact cc) m1 JK).2.1 (by rw[m2];omega) (by rw[m2];exact AN) e.symm;have:=ry.out;omega
   have Bf:bJ f (.ent b i0)=s:=by simp only[bJ,aE af];exact Hs.out.symm
   have MQ:¬(b=s4∨b=bJ f (.ent b i0)):=fun e=>by rw[Bf]at e;rcases e with e | e;exact EE e;exact BY e
   have QA:¬(c=s4∨c=bJ f (.ent b i0)):=fun e=>by rw[Bf]at e;rcases e with e | e;exact xq e;exact iN e
   have By:A4.φ b=some q:=by rw[bg.ad.φ b MQ];exact hφ
   have KV:A4.α b=some g:=by rw[bg.ad.α b MQ];exact hg
   have Bz:A4.φ c=some qc:=by rw[bg.ad.φ c QA];exact CZ
   have sg:Hid (fillLast f b i c=some (moveF f4 b s4 c k' (ses.take (ses.length-1)) (ses.drop (ses.length-1)++ces) (es2.set i (ky ses (ses.length-1),(es2.getD i e0).2)))):=by
    show fillLast f b i c=_
    rw[HF.out,if_pos mm.out,al];simp only[aE Gp,aE xu,aE m1]
   clear HF;obtain⟨q4',junks4,e1,Nm,Hp,mr⟩:=bg.st.getNode xu;rw[rx]at e1;cases e1;obtain⟨gs,yc⟩:=mr.arrOf (by simp only;omega);rw[yc]at mr;obtain⟨l1,KZ⟩:=exH (ses.length-1);have ee:l1<ses.length:=by rw[KZ.out];omega
   have Ya:IntKind.i64.wrap ((ses.length:Int)-1)=(l1:Int):=by
    have:=KZ.out
    rw[IntWalk.i64_in _ ⟨by omega,by omega⟩];omega
   have cs1:w4.cell? ⟨qs4,1,none⟩=some (.slice (some ⟨gs,0,none⟩) ses.length (ses.length+junks4.length)):=by rw[mr.box.cell];rfl
   have XN:ses.length+junks4.length≤maxLen:=mr.small;have HM:=aA (aI m2 (aI m5 (aI m6 m7)));clear m2 m5 m6 m7 AI;go_wp2_with fail;refine(gO qs4 gs k' ses junks4 l1 w4 mr C2 ee).mono ?_;rintro e w5 ⟨rfl,⟨junks5,o6⟩,er⟩;have Kq:delE ses l1=ses.take (ses.length-1):=by
    unfold delE;rw[KZ.out,show ses.length-1+1=ses.length by omega];simp
   have FZ:Frm (fun x=>x=qs4∨A4.α s4=some x) w4 w5:=er.wide fun x _ e=>by rcases e with e | e;exact .inl e;right;rw[yc,e]
   rw[Kq]at o6;obtain⟨cq,ng⟩:=bg.st.nodeSame xu rx FZ (by rw[yc];exact o6);obtain⟨k0,v0,c0,LW⟩:∃k0 v0 c0,Hid (ses.getD l1 e0=(k0,v0,c0)):=⟨_,_,_,rfl⟩;rw[show aAJ (ses.getD l1 e0)=.agg #[.string k0,.string v0,.int .i64 c0] by rw[LW.out];rfl];clear o6 er FZ cs1;go_wp2;obtain⟨M,O2⟩:=exH (w5.heap.size);obtain⟨Wm,PG⟩:=exH (w5.alloc (.cells #[.string k0,.string v0,.int .i64 c0] 110));rw[←PG.out,←O2.out];have OH:IsC Wm M #[.string k0,.string v0,.int .i64 c0] 110:=by rw[PG.out,O2.out];exact IsC.new _ _ _
   have Lr:Bl w5 Wm:=by rw[PG.out];exact(bQ w5.heap.size w5).alloc (nR _) _
   have SD:ρ4 M=0:=Nat.eq_zero_of_not_pos fun q=>by
    obtain⟨_,_,_,CJ,_⟩:=id cq;have:=CJ.own M (by omega);rw[O2.out]at this;omega
   have P5:=cq.below Lr;have Fv:(setN f4 s4 (k',ses.take (ses.length-1))).nodes c=some (k',ces):=(bD _ _ xq).trans Gp;obtain⟨qc',junkc,e1,DA,wv,im⟩:=P5.getNode Fv;rw[Bz]at e1;cases e1;obtain⟨ac,xh⟩:∃ac,ac=A4.α c:=⟨_,rfl⟩;rw[←xh]at im;have En:=aA xh;clear xh;have Va:M≠qc:=fun e=>by rw[e,DA]at SD;unfold cE at SD;omega
   have VZ:∀x,ac=some x→M≠x:=fun x e e'=>by
    have:=wv x (by rw[←En.out];exact e)
    rw[←e',SD]at this;unfold cB at this;omega
   have Tf:∀W:World,IsC W M #[.string k0,.string v0,.int .i64 c0] 110→W.cell? ⟨M,0,none⟩=some (.string k0)∧W.cell? ⟨M,1,none⟩=some (.string v0)∧W.cell? ⟨M,2,none⟩=some (.int .i64 c0):=fun W hW=>⟨hW.c rfl,hW.c rfl,hW.c rfl⟩;have DC:=aA Tf;clear Tf;have am:Wm.drew.cell? ⟨qc,1,none⟩=some (.slice (adr ac) ces.length (ces.length+junkc.length))∧Wm.drew.cell? ⟨M,0,none⟩=some (.string k0)∧Wm.drew.cell? ⟨M,1,none⟩=some (.string v0)∧Wm.drew.cell? ⟨M,2,none⟩=some (.int .i64 c0):=⟨by show Wm.cell? _=_;rw[im.box.cell];rfl,DC.out Wm OH⟩;refine bA (fun W=>W.cell? ⟨qc,1,none⟩=some (.slice (adr ac) ces.length (ces.length+junkc.length))∧W.cell? ⟨M,0,none⟩=some (.string k0)∧W.cell? ⟨M,1,none⟩=some (.string v0)∧W.cell? ⟨M,2,none⟩=some (.int .i64 c0)) 10 (by kernel_rfl) ?_;refine tJ 0 42 (.pointer (some ⟨qc,0,none⟩)) rfl am ?_;simp only[Act.put,sB,sZ,sS];refine tJ 1 43 (.pointer (some ⟨qc,0,none⟩)) rfl am ?_;simp only[Act.put,sB,sZ,sS];refine tJ 2 44 (.pointer (some ⟨qc,0,none⟩)) rfl am ?_;simp only[Act.put,sB,sZ,sS];refine tJ 3 45 (.pointer (some ⟨qc,1,none⟩)) rfl am ?_;simp only[Act.put,sB,sZ,sS];refine tJ 4 46 (.slice (adr ac) ces.length (ces.length+junkc.length)) rfl am ?_;simp only[Act.put,sB,sZ,sS];refine tJ 5 47 (.agg #[.string k0,.string v0,.int .i64 c0]) rfl am ?_;simp only[Act.put,sB,sZ,sS];refine oE 6 rfl fun K2 ae=>?_;go_simp;obtain⟨G6,zt⟩:=exH (Wm.heap.size);obtain⟨W6,BB⟩:=exH ((Wm.alloc (.cells #[.string k0,.string v0,.int .i64 c0] 110)).drew);rw[←BB.out,←zt.out];have y9:IsC W6 G6 (bW [(k0,v0,c0)]) 110:=by rw[BB.out,zt.out];exact(IsC.new Wm _ _).drew
   have r9:Bl Wm W6:=by rw[BB.out];exact((bQ Wm.heap.size Wm).alloc (nR _) _).drew
   have oz:=im.below r9;have IY:IsC W6 M #[.string k0,.string v0,.int .i64 c0] 110:=OH.of (r9.block M OH.lt);have Lz:∀x,ac=some x→x≠G6:=fun x e=>by rw[zt.out];exact Nat.ne_of_lt (im.arr x e).1.lt
   have AY:W6.cell? ⟨qc,1,none⟩=some (.slice (adr ac) ces.length (ces.length+junkc.length))∧W6.cell? ⟨M,0,none⟩=some (.string k0)∧W6.cell? ⟨M,1,none⟩=some (.string v0)∧W6.cell? ⟨M,2,none⟩=some (.int .i64 c0):=⟨by rw[oz.box.cell];rfl,DC.out W6 IY⟩;refine ae _ _ (fun _=>AY) ?_;clear ae K2 am;have kv:=P5.below r9;refine oE 7 rfl fun K2 ae=>?_;go_simp;refine(jX ac ces junkc [(k0,v0,c0)] (some ⟨G6,0,none⟩) 1 0 W6 (fun x e=>(oz.arr x e).1) oz.nil (.inr ⟨G6,0,1,[(k0,v0,c0)],rfl,y9,by simp,by simp⟩) (fun gv o n c' e e'=>by cases e;exact Lz _ e' rfl) (Nat.zero_le _) (by simp) (by have:=HC.out.2;simp;omega) oz.small).mono ?_;rintro e w7 ⟨u,rfl,ej⟩;obtain⟨ua,un,uc,rfl⟩:∃ua un uc,u=.slice ua un uc:=by obtain⟨⟨a',j',e,_⟩,_⟩:=ej;exact⟨_,_,_,e⟩
   rw[show ces.take 0++[(k0,v0,c0)]++ces.drop 0=[(k0,v0,c0)]++ces by simp]at ej;have IZ:IsC w7 M #[.string k0,.string v0,.int .i64 c0] 110:=IY.frm ej.frm (fun e=>VZ M e rfl);have nm:w7.cell? ⟨qc,1,none⟩=some (.slice (adr ac) ces.length (ces.length+junkc.length))∧w7.cell? ⟨M,0,none⟩=some (.string k0)∧w7.cell? ⟨M,1,none⟩=some (.string v0)∧w7.cell? ⟨M,2,none⟩=some (.int .i64 c0):=⟨(dA (ej.frm.block qc oz.box.lt (fun e=>(oz.arr qc e).2 rfl)) 1).trans AY.1,DC.out w7 IZ⟩;obtain⟨a',-,ni,Am,-,wh⟩:=kv.ins (w1:=w7) (u:=.slice ua un uc) Fv Bz (by rw[←En.out];exact ej);have L8:IsC (w7.setCell ⟨qc,1,none⟩ (.slice ua un uc)) M #[.string k0,.string v0,.int .i64 c0] 110:=IZ.set_ne _ Va;refine ae _ _ (fun _=>nm) ?_;clear ae K2 AY;refine oE 8 rfl fun K2 ae=>?_;go_simp;refine ae _ _ (fun _=>nm) ?_;clear ae K2;refine oE 9 rfl fun K2 ae=>?_;go_simp;refine ae _ _ (fun _=>nm) ?_;clear ae K2;obtain⟨Br,-⟩:=nm;refine oE 10 rfl fun K2 ae=>?_;go_simp;refine ae _ _ (fun q=>absurd rfl q) ?_;clear ae K2 Br wh;refine aW (by kernel_rfl) ?_ _;have ts:Mv (fun _=>False) w ρ (w7.setCell ⟨qc,1,none⟩ (.slice ua un uc)) (jA ρ4 a' c):=(((bg.mv.trans ng (fun _ _ e=>e)).trans (Mv.of_below Lr) (fun _ _ e=>e)).trans (Mv.of_below r9) (fun _ _ e=>e)).trans Am (fun _ _ e=>e);generalize w7.setCell ⟨qc,1,none⟩ (.slice ua un uc)=W8 at *;obtain⟨f8,GY⟩:=exH (setN (setN f4 s4 (k',ses.take (ses.length-1))) c (k',[(k0,v0,c0)]++ces));rw[←GY.out]at ni;have oo:f8.nodes b=some (2,es2):=by rw[GY.out,bD _ _ nz,bD _ _ EE];exact m1
   obtain⟨q',junkb8,e1,-,-,il⟩:=ni.getNode oo;rw[show(dL A4 c a').φ b=some q from By]at e1;cases e1;have me:(dL A4 c a').α b=some g:=(aC _ _ nz).trans KV;rw[me]at il;have AM:i<es2.length:=by rw[HM.out.1];exact ak
   have WV:((i:Nat):Int) <(es2.length:Int):=by omega
   obtain⟨vk,tk⟩:∃v,W8.cell? ⟨g,i*3,none⟩=some v:=⟨_,(bF (il.arr g rfl).1 (i:=i) (by simp;omega)).1⟩;have tf:=(il.arr g rfl).1.frozen (i*3);have ol:=il.setc (i:=i) (j:=0) (v:=.string k0) (e':=(k0,(es2.getD i e0).2)) AM (by omega) (by simp[aJ]);rw[Nat.add_zero]at ol;obtain⟨pz,CG⟩:=ni.nodeSame (w':=W8.setCell ⟨g,i*3,none⟩ (.string k0)) oo By (Frm.set W8 (p:=⟨g,i*3,none⟩) (.inr me) _) (by rw[me];exact ol);have be:setN f8 b (2,es2.set i (k0,(es2.getD i e0).2))=moveF f4 b s4 c k' (ses.take (ses.length-1)) (ses.drop (ses.length-1)++ces) (es2.set i (ky ses (ses.length-1),(es2.getD i e0).2)):=by
    rw[GY.out,aDZ (by omega)];unfold ky;rw[←KZ.out,LW.out];rfl
   rw[be]at pz;have DH:JS 12 f J (moveF f4 b s4 c k' (ses.take (ses.length-1)) (ses.drop (ses.length-1)++ces) (es2.set i (ky ses (ses.length-1),(es2.getD i e0).2))) J4:=by
    refine(((bg.js.trans (JS.setN _ BP)).trans (JS.setN _ (bg.js.tch c Ei))).trans (JS.setN _ (bg.js.tch b qv))).up (by omega)
   have JL:c<f4.cur.length:=i5.lt c _ Gp;have KP:s4<f4.cur.length:=i5.lt s4 _ xu;have I8:b<f4.cur.length:=i5.lt b _ m1;have C9:Sz (K+10) (moveF f4 b s4 c k' (ses.take (ses.length-1)) (ses.drop (ses.length-1)++ces) (es2.set i (ky ses (ses.length-1),(es2.getD i e0).2))):=
    ((i5.setN KP (by simp;omega)).setN JL (by have:=HC.out.2;simp;omega)).setN I8 (by have:=HM.out.1;simp;omega)
   have HR:=aA (show Dn 12 (fun _=>True) w ρ P A f J (W8.setCell ⟨g,i*3,none⟩ (.string k0)) (jA ρ4 a' c) (dL A4 c a') (moveF f4 b s4 c k' (ses.take (ses.length-1)) (ses.drop (ses.length-1)++ces) (es2.set i (ky ses (ses.length-1),(es2.getD i e0).2))) J4∧Sz (K+10) (moveF f4 b s4 c k' (ses.take (ses.length-1)) (ses.drop (ses.length-1)++ces) (es2.set i (ky ses (ses.length-1),(es2.getD i e0).2)))from⟨⟨pz,ts.trans CG (fun _ _ e=>e),DH,(bg.ad.trans (AdS.arr A4 c a')).up fun _ _=>trivial⟩,C9⟩);have lu:W8.drew.cell? ⟨q,1,none⟩=some (.slice (some ⟨g,0,none⟩) es2.length (es2.length+junkb8.length))∧W8.drew.cell? ⟨M,0,none⟩=some (.string k0):=⟨by show W8.cell? _=_;rw[il.box.cell];rfl,(DC.out W8 L8).1⟩;clear pz CG DH C9 be ol il ni ts Am kv cq ng ej oz im y9 bg L8 IZ IY OH P5;go_wp2;refine bA (fun W=>W.cell? ⟨q,1,none⟩=some (.slice (some ⟨g,0,none⟩) es2.length (es2.length+junkb8.length))∧W.cell? ⟨M,0,none⟩=some (.string k0)) 9 (by kernel_rfl) ?_;refine tJ 0 52 (.pointer (some ⟨q,0,none⟩)) rfl lu ?_;simp only[Act.put,sB,sZ,sS];refine tJ 1 53 (.pointer (some ⟨q,0,none⟩)) rfl lu ?_;simp only[Act.put,sB,sZ,sS];refine tJ 2 54 (.pointer (some ⟨q,1,none⟩)) rfl lu ?_;simp only[Act.put,sB,sZ,sS];refine tJ 3 55 (.slice (some ⟨g,0,none⟩) es2.length (es2.length+junkb8.length)) rfl lu ?_;simp only[Act.put,sB,sZ,sS];refine tJ 4 56 (.int .i64 i) rfl lu ?_;simp only[Act.put,sB,sZ,sS];refine tJ 5 57 (.pointer (some ⟨M,0,none⟩)) rfl lu ?_;simp only[Act.put,sB,sZ,sS];refine tJ 6 58 (.string k0) rfl lu ?_;simp only[Act.put,sB,sZ,sS];refine oE 7 rfl fun K2 ae=>?_;go_simp;refine ae _ _ (fun _=>lu) ?_;clear ae K2;refine oE 8 rfl fun K2 ae=>?_;go_simp;refine ae _ _ (fun _=>lu) ?_;clear ae K2;refine oE 9 rfl fun K2 ae=>?_;go_simp;refine ae _ _ (fun q=>absurd rfl q) ?_;clear ae K2;refine aW (by kernel_rfl) ?_ _;go_wp2;first | go_end0 | refine bodyPost_ret (results_none rfl _ _ _) rfl ?_
   obtain⟨BH,zn⟩:=HR.out;refine⟨fun q=>(by rw[sg.out]at q;cases q),fun g' rf=>?_⟩;rw[sg.out]at rf;cases rf;exact⟨rfl,_,_,J4,BH.below (by first | exact bQ _ _ | exact(bQ _ _).drew),By.trans hφ.symm,Bz.trans CZ.symm,zn⟩
 ·have AI:decide (2<ses.length)=false:=by simpa using kr
  have mm:=aA kr;clear kr c1;go_wp2_with fail;refine(fW qs (k',ses) _ junks _ (Ez.below (below_drewN _ _))).mono ?_;rintro e w4 ⟨rfl,cn⟩;have dq:Bl w w4:=by rw[cn];exact below_drewN _ _
  clear cn;have aw:=sb.below dq;have mr:=Ez.below dq;obtain⟨az,has⟩:∃az,az=A.α s:=⟨_,rfl⟩;rw[←has]at mr;obtain⟨qc',junkc,e1,DA,wv,tu⟩:=aw.getNode hd;rw[CZ]at e1;cases e1;obtain⟨ac,xh⟩:∃ac,ac=A.α c:=⟨_,rfl⟩;rw[←xh]at tu;have En:=aA xh;have UR:=aA has;clear xh has AI;have am:w4.drew.cell? ⟨qc,1,none⟩=some (.slice (adr ac) ces.length (ces.length+junkc.length))∧w4.drew.cell? ⟨qs,1,none⟩=some (.slice (adr az) ses.length (ses.length+junks.length)):=⟨by show w4.cell? _=_;rw[tu.box.cell];rfl,by show w4.cell? _=_;rw[mr.box.cell];rfl⟩;go_wp2;refine bA (fun W=>W.cell? ⟨qc,1,none⟩=some (.slice (adr ac) ces.length (ces.length+junkc.length))∧W.cell? ⟨qs,1,none⟩=some (.slice (adr az) ses.length (ses.length+junks.length))) 12 (by kernel_rfl) ?_;refine tJ 0 61 (.pointer (some ⟨qc,0,none⟩)) rfl am ?_;simp only[Act.put,sB,sZ,sS];refine tJ 1 62 (.pointer (some ⟨qc,0,none⟩)) rfl am ?_;simp only[Act.put,sB,sZ,sS];refine tJ 2 63 (.pointer (some ⟨qc,0,none⟩)) rfl am ?_;simp only[Act.put,sB,sZ,sS];refine tJ 3 64 (.pointer (some ⟨qc,1,none⟩)) rfl am ?_;simp only[Act.put,sB,sZ,sS];refine tJ 4 65 (.slice (adr ac) ces.length (ces.length+junkc.length)) rfl am ?_;simp only[Act.put,sB,sZ,sS];refine tJ 5 66 (.pointer (some ⟨qs,0,none⟩)) rfl am ?_;simp only[Act.put,sB,sZ,sS];refine tJ 6 67 (.pointer (some ⟨qs,0,none⟩)) rfl am ?_;simp only[Act.put,sB,sZ,sS];refine tJ 7 68 (.pointer (some ⟨qs,1,none⟩)) rfl am ?_;simp only[Act.put,sB,sZ,sS];refine tJ 8 69 (.slice (adr az) ses.length (ses.length+junks.length)) rfl am ?_;simp only[Act.put,sB,sZ,sS];have tr:Bl w4 w4.drew:=(bQ w4.heap.size w4).drew;have im:=tu.below tr;have o6:=mr.below tr;have cq:=aw.below tr;have Ix:∀x,ac=some x→x≠qs:=fun x e e'=>by
   have h1:=(im.arr x e).1;rw[e']at h1;exact IsC.ne h1 o6.box (by decide) rfl
  have uo:aMJ (.slice (adr az) ses.length (ses.length+junks.length)) ac:=fun gv o n c' e e'=>by
   have h2:=wv gv (by rw[←En.out];exact e');cases az with
   | none=>simp[adr]at e
   | some x=>
    simp only[adr,Option.map_some,Value.slice.injEq,sJ,Addr.mk.injEq]at e;have h3:=Nl x (by rw[←UR.out]);rw[e.1.1,h2]at h3;exact(rne iN).2.2.2 h3
  refine oE 9 rfl fun K2 ae=>?_;go_simp;refine(jX ac ces junkc ses (adr az) (ses.length+junks.length) 0 w4.drew (fun x e=>(im.arr x e).1) im.nil o6.esl uo (Nat.zero_le _) (by omega) (by have:=HC.out.2;have:=mm.out;omega) im.small).mono ?_;rintro e W7 ⟨u,rfl,ej⟩;obtain⟨ua,un,uc,rfl⟩:∃ua un uc,u=.slice ua un uc:=by obtain⟨⟨a',j',e,_⟩,_⟩:=ej;exact⟨_,_,_,e⟩
  rw[show ces.take 0++ses++ces.drop 0=ses++ces by simp]at ej;have nm:W7.cell? ⟨qc,1,none⟩=some (.slice (adr ac) ces.length (ces.length+junkc.length))∧W7.cell? ⟨qs,1,none⟩=some (.slice (adr az) ses.length (ses.length+junks.length)):=⟨(dA (ej.frm.block qc im.box.lt (fun e=>(im.arr qc e).2 rfl)) 1).trans am.1,(dA (ej.frm.block qs o6.box.lt (fun e=>Ix qs e rfl)) 1).trans am.2⟩;obtain⟨a',-,ni,Am,-,wh⟩:=cq.ins (w1:=W7) (u:=.slice ua un uc) hd CZ (by rw[←En.out];exact ej);refine ae _ _ (fun _=>nm) ?_;clear ae K2 am;refine oE 10 rfl fun K2 ae=>?_;go_simp;refine ae _ _ (fun _=>nm) ?_;clear ae K2;refine oE 11 rfl fun K2 ae=>?_;go_simp;refine ae _ _ (fun _=>nm) ?_;clear ae K2;obtain⟨Br,-⟩:=nm;refine oE 12 rfl fun K2 ae=>?_;go_simp;refine ae _ _ (fun q=>absurd rfl q) ?_;clear ae K2 Br wh;refine aW (by kernel_rfl) ?_ _;have ts:Mv (fun _=>False) w ρ (W7.setCell ⟨qc,1,none⟩ (.slice ua un uc)) (jA ρ a' c):=((Mv.of_below dq).trans (Mv.of_below tr) (fun _ _ e=>e)).trans Am (fun _ _ e=>e);generalize W7.setCell ⟨qc,1,none⟩ (.slice ua un uc)=W8 at *;have oo:(setN f c (k',ses++ces)).nodes b=some (2,es):=(bD _ _ nz).trans af;obtain⟨q',junkb8,e1,-,-,il⟩:=ni.getNode oo;rw[show(dL A c a').φ b=some q from hφ]at e1;cases e1;have me:(dL A c a').α b=some g:=(aC _ _ nz).trans hg;rw[me]at il;obtain⟨y,HY⟩:=exH (ky es i0);have ty:W8.cell? ⟨g,i0*3,none⟩=some (.string y):=by
   have:=(bF (il.arr g rfl).1 (i:=i0) (by simp;omega)).1
   rw[gD,List.getElem?_append_left AN,←gD]at this;rw[HY.out];exact this
  obtain⟨vk,tk⟩:∃v,W8.cell? ⟨g,i*3,none⟩=some v:=⟨_,(bF (il.arr g rfl).1 (i:=i) (by simp;omega)).1⟩;have tf:=(il.arr g rfl).1.frozen (i*3);have ol:=il.setc (i:=i) (j:=0) (v:=.string y) (e':=(y,(es.getD i e0).2)) ak (by omega) (by simp[aJ]);rw[Nat.add_zero]at ol;obtain⟨pz,CG⟩:=ni.nodeSame (w':=W8.setCell ⟨g,i*3,none⟩ (.string y)) oo hφ (Frm.set W8 (p:=⟨g,i*3,none⟩) (.inr me) _) (by rw[me];exact ol);have lu:W8.drew.cell? ⟨q,1,none⟩=some (.slice (some ⟨g,0,none⟩) es.length (es.length+junkb8.length))∧W8.drew.cell? ⟨g,i0*3,none⟩=some (.string y):=⟨by show W8.cell? _=_;rw[il.box.cell];rfl,ty⟩;have L5:=ts.trans CG (fun _ _ e=>e);clear ol il ej im o6 ty ts CG ni;go_wp2;refine bA (fun W=>W.cell? ⟨q,1,none⟩=some (.slice (some ⟨g,0,none⟩) es.length (es.length+junkb8.length))∧W.cell? ⟨g,i0*3,none⟩=some (.string y)) 11 (by kernel_rfl) ?_;refine tJ 0 73 (.pointer (some ⟨q,0,none⟩)) rfl lu ?_;simp only[Act.put,sB,sZ,sS];refine tJ 1 74 (.pointer (some ⟨q,0,none⟩)) rfl lu ?_;simp only[Act.put,sB,sZ,sS];refine tJ 2 75 (.pointer (some ⟨q,1,none⟩)) rfl lu ?_;simp only[Act.put,sB,sZ,sS];refine tJ 3 76 (.slice (some ⟨g,0,none⟩) es.length (es.length+junkb8.length)) rfl lu ?_;simp only[Act.put,sB,sZ,sS];refine tJ 4 77 (.int .i64 i) rfl lu ?_;simp only[Act.put,sB,sZ,sS];refine tJ 5 78 (.pointer (some ⟨g,i0*3,none⟩)) rfl lu ?_;simp only[Act.put,sB,sZ,sS];refine tJ 6 79 (.pointer (some ⟨g,i0*3,none⟩)) rfl lu ?_;simp only[Act.put,sB,sZ,sS];refine tJ 7 80 (.pointer (some ⟨g,i0*3,none⟩)) rfl lu ?_;simp only[Act.put,sB,sZ,sS];refine tJ 8 81 (.string y) rfl lu ?_;simp only[Act.put,sB,sZ,sS];refine oE 9 rfl fun K2 ae=>?_;go_simp;refine ae _ _ (fun _=>lu) ?_;clear ae K2;refine oE 10 rfl fun K2 ae=>?_;go_simp;refine ae _ _ (fun _=>lu) ?_;clear ae K2;refine oE 11 rfl fun K2 ae=>?_;go_simp;refine ae _ _ (fun q=>absurd rfl q) ?_;clear ae K2;refine aW (by kernel_rfl) ?_ _;have Fp:=pz.below (bQ _ _).drew;have Gd:=L5.trans (Mv.of_below (X:=fun _=>False) (bQ _ _).drew) (fun _ _ e=>e);clear pz L5 lu tk tf;generalize (W8.setCell ⟨g,i*3,none⟩ (.string y)).drew=W9 at *;obtain⟨es9,N5⟩:=exH (es.set i (y,(es.getD i e0).2));rw[←N5.out]at Fp;have OU:es9.length=es.length:=by rw[N5.out];simp
  have fu:(setN (setN f c (k',ses++ces)) b (2,es9)).nodes b=some (2,es9):=sM _ _ _;obtain⟨q',junkb9,e1,-,-,Cj⟩:=Fp.getNode fu;rw[show(dL A c a').φ b=some q from hφ]at e1;cases e1;rw[me]at Cj;have Nu:=aA OU;have Tp:es9.getD i0 e0=es.getD i0 e0:=by
   rw[N5.out,bB _ _ _ _ _ ak,if_neg (by have:=ry.out;omega)]
  have Ua:=aA Tp;clear OU Tp;go_wp2_with fail;refine(gO q g 2 es9 junkb9 i0 W9 Cj (by have:=Nu.out;omega) (by have:=Nu.out;omega)).mono ?_;rintro e w9 ⟨rfl,⟨junkb10,Ge⟩,wj⟩;obtain⟨k1,v1,FP⟩:∃k1 v1,Hid (es9.getD i0 e0=(k1,v1,(s:Int))):=⟨(es.getD i0 e0).1,(es.getD i0 e0).2.1,by show _=_;rw[Ua.out,←DD.out]⟩;rw[show aAJ (es9.getD i0 e0)=.agg #[.string k1,.string v1,.int .i64 s] by rw[FP.out];rfl];obtain⟨Cm,Dm⟩:=Fp.nodeSame fu hφ (wj.wide fun x _ e=>by rcases e with e | e;exact .inl e;right;rw[me,e]) (by rw[me];exact Ge);rw[aFB]at Cm;have JU:(setN (setN f c (k',ses++ces)) b (2,delE es9 i0)).nodes s=some (k',ses):=((bD _ _ (Ne.symm BY)).trans (bD _ _ (Ne.symm iN))).trans iu;have C9:Sz K (setN (setN f c (k',ses++ces)) b (2,delE es9 i0)):=(hz.setN JM (by have:=HC.out.2;have:=mm.out;simp;omega)).setN d9 (by have:=bI es9 i0 (by have:=Nu.out;omega);have:=Nu.out;simp only;omega);have JP:cu (setN (setN f c (k',ses++ces)) b (2,delE es9 i0)) s=cu f s:=rfl;have DH:JS 0 f J (setN (setN f c (k',ses++ces)) b (2,delE es9 i0)) J:=(JS.setN _ Ei).trans (JS.setN _ qv);clear Cj Ge wj Fp;go_wp2_with fail;refine(nU w9 (jA ρ a' c) P (dL A c a') (setN (setN f c (k',ses++ces)) b (2,delE es9 i0)) J s (k',ses) Cm C9 (by omega) (by omega) JU (by rw[JP];have:=hW.ic.cu_pos iu;omega) (fun x hx=>hW.ic.kid_lt iu hx) (aDB hW.ic iu)).mono ?_;rintro e w10 ⟨rfl,ρ10,J10,ME,L4,Dk,Em⟩;have BD:AdS (fun _=>True) A (if cu (setN (setN f c (k',ses++ces)) b (2,delE es9 i0)) s=1 then gP (dL A c a') s else dL A c a')∧(if cu (setN (setN f c (k',ses++ces)) b (2,delE es9 i0)) s=1 then gP (dL A c a') s else dL A c a').φ b=A.φ b∧(if cu (setN (setN f c (k',ses++ces)) b (2,delE es9 i0)) s=1 then gP (dL A c a') s else dL A c a').φ c=A.φ c:=by
   split
   ·exact⟨((AdS.arr A c a').trans (AdS.del _ s)).up fun _ _=>trivial,aC _ _ BY,aC _ _ iN⟩
   ·exact⟨(AdS.arr A c a').top,rfl,rfl⟩
  generalize (if cu (setN (setN f c (k',ses++ces)) b (2,delE es9 i0)) s=1 then gP (dL A c a') s else dL A c a')=A10 at *;have sg:Hid (fillLast f b i c=some (letGo (setN (setN f c (k',ses++ces)) b (2,delE es9 i0)) s)):=by
   show fillLast f b i c=_
   rw[HF.out,if_neg mm.out,N5.out,HY.out];rfl
  clear HF;have HR:=aA (show Dn 12 (fun _=>True) w ρ P A f J w10 ρ10 A10 (letGo (setN (setN f c (k',ses++ces)) b (2,delE es9 i0)) s) J10∧Sz (K+10) (letGo (setN (setN f c (k',ses++ces)) b (2,delE es9 i0)) s)from⟨⟨ME,(Gd.trans Dm (fun _ _ e=>e)).trans L4 (fun _ _ e=>e),(DH.trans Dk).up (by omega),BD.1⟩,Em⟩);have HA:=aA BD.2;clear BD Cm Dm Dk Em ME L4 Gd;go_wp2;first | go_end0 | refine bodyPost_ret (results_none rfl _ _ _) rfl ?_
  obtain⟨BH,zn⟩:=HR.out;refine⟨fun q=>(by rw[sg.out]at q;cases q),fun g' rf=>?_⟩;rw[sg.out]at rf;cases rf;exact⟨rfl,_,_,J10,BH,HA.out.1,HA.out.2,zn⟩
theorem aGR{K:Int}(w:World)(ρ:Nat→Nat)(P:Nat)(A:Adr)(f:fZ)(J:List aQ)(b:Nat)(h:St w ρ P A f J)(hz:Sz K f)(ku:J.length≤900000)(hb:b<f.cur.length):
  Calls Tryz.prog 123 #[.pointer (some ⟨P,0,none⟩),.int .i64 b] w fun e w'=>e=.returned (.tuple #[])∧∃ρ',St w' ρ' P (gP A b) (freeB f b) (J++[(b,cu f b,f.nodes b)])∧Mv (fun _=>False) w ρ w' ρ'∧Frm (fun k=>ρ k=1∨ρ k=6∨ρ k=3∨ρ k=4) w w':=by
 obtain⟨ja,jp,jj,hR,hJ⟩:=id h;go_enter Tryz.func123,Tryz.ntmps123;go_wp2_with fail;refine(lV _ ρ P A f J b h hz hb ku).mono ?_;rintro e w2 ⟨rfl,ρ2,ax,li,-,wm⟩;obtain⟨ja2,jp2,jj2,gi,nu⟩:=id ax;obtain⟨n3,n4,n5,n7⟩:=gi.cells;have DN:(b:Int) <(f.cur.length:Int):=by omega
 have kz:=gi.count hb;have Ks:w2.frozen? ⟨A.c,b,none⟩=false:=gi.hc.frozen b;obtain⟨aw,Gg⟩:=ax.setC (b:=b) hb 0;obtain⟨ja3,jp3,jj3,qn,vf⟩:=id aw;obtain⟨w5,FD,ng,er⟩:=qn.hm.del b (by have:=hz.n512;omega) 0;have o3:(w2.setCell ⟨A.c,b,none⟩ (.int .i64 0)).cell? ⟨P,3,none⟩=some (.map (some A.m)):=qn.cells.m3;obtain⟨cq,Ik⟩:=aw.del (b:=b) ng er;have Lw:Frm (fun k=>ρ k=1∨ρ k=6∨ρ k=3∨ρ k=4) w w5:=by
  refine((wm.wide fun x _ e=>by rcases e with e | e;exact .inl e;exact .inr (.inl e)).trans (Frm.set w2 (p:=⟨A.c,b,none⟩) (.inr (.inr (.inr hR.rc))) _)).next er (fun x _ e=>.inr (.inr (.inl (by rw[e];exact hR.rm))))
 have CB:=aA cq;have PE:=aA Ik;have Lk:=aA Gg;have GW:=aA Lw;clear cq Ik Gg aw Lw;go_wp2;go_end0;exact⟨rfl,ρ2,CB.out,(li.trans Lk.out (fun _ _ e=>e)).trans PE.out (fun _ _ e=>e),GW.out⟩
structure SdP(w:World)(ρ:Nat→Nat)(P:Nat)(A:Adr)(f:fZ)(J:List aQ)(b:Nat)(key:ByteArray)(K:Int)(e:Ending)(w':World):Prop where
 no:stepDel f b key=none→Pk 24 w ρ P f J e w'
 yes:∀g c,stepDel f b key=some (g,c)→∃ρ' A' J' q,e=.returned (.pointer (some ⟨q,0,none⟩))∧A'.φ c=some q∧A'.φ b=A.φ b∧Dn 24 (fun _=>True) w ρ P A f J w' ρ' A' g J'∧Tch c J'∧Sz (K+20) g
theorem aBT{K:Int}(w:World)(ρ:Nat→Nat)(P:Nat)(A:Adr)(f:fZ)(J:List aQ)(t H:Nat)(Pt:List Nat)(b h:Nat)(lo hi:OB)(key:ByteArray)(q:Nat)(sb:St w ρ P A f J)(hW:Wk f t H)(hp:aN f t H Pt b (h+1) lo hi)(h2:2≤sz f.nodes b)(hφ:A.φ b=some q)(hz:Sz K f)(sw:1≤K)(hK:K≤600000)(ku:J.length≤500000)(qv:Tch b J):
  Calls Tryz.prog 122 #[.pointer (some ⟨P,0,none⟩),.pointer (some ⟨q,0,none⟩),.string key] w (SdP w ρ P A f J b key K):=by
 obtain⟨es,af,so,av⟩:=hp.inner hW;have N7:2≤es.length:=by unfold sz at h2;rw[af]at h2;exact h2
 have fj:=hz.ent b _ af;simp only at fj;have d9:b<f.cur.length:=hz.lt b _ af;obtain⟨q',junk,e1,ww,wu,hN⟩:=sb.getNode af;rw[hφ]at e1;cases e1;obtain⟨g,hg⟩:=hN.arrOf (by simp only;omega);rw[hg]at hN;have jd:bK es key<es.length:=eB key av;have Mo:((bK es key:Nat):Int) <(es.length:Int):=by omega
 have HD:Hid (stepDel f b key=match shadow f (.ent b (bK es key))with
  | none=>none
  | some (g,c)=>
   if 2 <(Fo.look g c).2.length then some (g,c)else
   if bK es key+1 <(Fo.look g b).2.length then(fillNext g b (bK es key) c).map fun k=>(k,c)
   else(fillLast g b (bK es key) c).map fun k=>(k,c)):=by
  show stepDel f b key=_
  unfold stepDel;rw[aE af];rfl
 have lv:es.length+junk.length≤maxLen:=hN.small;go_enter Tryz.func122,Tryz.ntmps122;go_wp2_with fail;refine(gT q (2,es) (some g) junk key _ hN so.srt fj).mono ?_;rintro e w2 ⟨rfl,db⟩;have ax:=sb.below db;have sa:=hN.below db;have li:Mv (fun _=>False) w ρ w2 ρ:=Mv.of_below db;have c2:w2.cell? ⟨q,1,none⟩=some (.slice (some ⟨g,0,none⟩) es.length (es.length+junk.length)):=by rw[sa.box.cell];rfl
 clear hN db;simp only at *;generalize hI:bK es key=i at *;have BL:dO f (.ent b i):=⟨d9,es,af,jd⟩;have BK:gS A (.ent b i) ⟨g,i*3+2,none⟩:=⟨g,hg,rfl⟩;go_wp2_with fail;refine(iE w2 ρ P A f J (.ent b i) ⟨g,i*3+2,none⟩ ax hW.ic hz sw (by omega) (by omega) BL BK (fun b' i' e=>by cases e;exact qv)).mono ?_;intro e w3 hT;cases al:shadow f (.ent b i)with
 | none=>
  obtain⟨rfl,ρ3,A3,g3,J3,a1,a2,a3⟩:=hT.no al;have kq:stepDel f b key=none:=by rw[HD.out,al]
  exact⟨rfl,fun _=>⟨rfl,ρ3,A3,g3,J3,a1,li.trans a2 (fun _ _ e=>e),a3.up (by omega)⟩,fun g c bp=>by rw[kq]at bp;cases bp⟩
 | some gc=>
  obtain⟨g1,c⟩:=gc;obtain⟨ρ3,A3,J3,q3,rfl,Az,bg,CK,vq⟩:=hT.yes g1 c al;obtain⟨w2',p2,p3,⟨es2,m1,m2,m3,m4⟩,m5,m6,m7,m8,m9⟩:=hW.shadow_ent hp af jd al;obtain⟨⟨kc,ces⟩,hd⟩:=w2'.ic.live (x:=c) (by rw[m6];omega);have xr:2≤ces.length:=by
   have:=(p3.ok w2'.ok).2 (by simp);unfold sz at this;rw[hd]at this;exact this
  have nz:b≠c:=fun e=>by
   have hk:c∈kids (2,es2):=by rw[←m4];exact aP (by rw[m2];exact jd)
   rw[←e]at hk;exact w2'.ic.not_self m1 hk
  have xk:¬(b=c∨b=bJ f (.ent b i)):=fun e=>by
   rcases e with e | e
   ·exact nz e
   ·have hk:bJ f (.ent b i)∈kids (2,es):=by simp only[bJ,aE af];exact gL jd
    rw[←e]at hk;exact hW.ic.not_self af hk
  have GS:A3.φ b=some q:=by rw[bg.ad.φ b xk];exact hφ
  obtain⟨q3',junk3,e1,UL,Nk,qz⟩:=bg.st.getNode hd;rw[Az]at e1;cases e1;obtain⟨qb',junkb,e1,-,-,Ps⟩:=bg.st.getNode m1;rw[GS]at e1;cases e1;obtain⟨ab,pn⟩:∃ab,ab=A3.α b:=⟨_,rfl⟩;rw[←pn]at Ps;clear pn;have Ca:Hid (stepDel f b key=if 2<ces.length then some (g1,c)else if i+1<es2.length then(fillNext g1 b i c).map fun k=>(k,c)else(fillLast g1 b i c).map fun k=>(k,c)):=by
   have:=HD.out
   rw[al]at this;simp only[aE hd,aE m1]at this;exact this
  clear HD;have ce:Dn 12 (fun _=>True) w ρ P A f J w3 ρ3 A3 g1 J3:=⟨bg.st,li.trans bg.mv (fun _ _ e=>e),bg.js.up (by omega),bg.ad.top⟩;have E1:Tch b J3:=bg.js.tch b qv;have vf:J3.length≤500012:=by have:=bg.js.len;omega
  clear hT bg;by_cases kr:2<ces.length
  ·have AI:decide (2<ces.length)=true:=by simpa using kr
   have mm:=aA kr;clear kr;go_wp2_with fail;refine(fW q3 (kc,ces) _ junk3 _ qz).mono ?_;rintro e w4 ⟨rfl,cn⟩;rw[cn];clear cn w4;go_wp2;go_ret;refine⟨fun q=>(by rw[Ca.out,if_pos mm.out]at q;cases q),fun g' c' bp=>?_⟩;rw[Ca.out,if_pos mm.out]at bp;cases bp;exact⟨ρ3,A3,J3,q3,rfl,Az,GS.trans hφ.symm,⟨ce.st,ce.mv,ce.js.up (by omega),ce.ad⟩,CK,vq.up (by omega)⟩
  ·have AI:decide (2<ces.length)=false:=by simpa using kr
   have jg:ces.length=2:=by omega
   have mm:=aA (aI kr jg);clear kr jg;have c3:w3.cell? ⟨q,1,none⟩=some (.slice (adr ab) es2.length (es2.length+junkb.length)):=by rw[Ps.box.cell];rfl
   have XP:es2.length+junkb.length≤maxLen:=Ps.small;obtain⟨i1,ry⟩:=exH (i+1);have wt:IntKind.i64.wrap ((i:Int)+1)=(i1:Int):=by
    have:=ry.out
    rw[IntWalk.i64_in _ ⟨by omega,by omega⟩];omega
   have Gx:es2.length≤9223372036854775807:=by rw[m2];omega
   have HM:=aA (aI m2 m4);have HB:=aA xr;clear m2 m4 xr;by_cases ai:i1<es2.length
   ·have Bi:((i1:Nat):Int) <(es2.length:Int):=by omega
    go_wp2_with fail
    refine(fW q3 (kc,ces) _ junk3 _ qz).mono ?_;rintro e w4 ⟨rfl,cn⟩;rw[cn];clear cn w4;go_wp2_with fail;refine(yP (K:=K+10) w3 ρ3 P A3 g1 J3 t H Pt b h lo hi es2 i c kc ces q q3 ce.st w2' p2 m1 (by have:=ry.out;omega) HM.out.2.symm hd m6 mm.out.2 GS Az vq (by omega) (by omega) (by omega) E1 CK).mono ?_;intro e w5 hF;cases te:fillNext g1 b i c with
    | none=>
     obtain⟨rfl,ρ5,A5,g5,J5,a1,a2,a3⟩:=hF.no te;have kq:stepDel f b key=none:=by rw[Ca.out,if_neg mm.out.1,if_pos (by have:=ry.out;omega),te];rfl
     exact⟨rfl,fun _=>⟨rfl,ρ5,A5,g5,J5,a1,ce.mv.trans a2 (fun _ _ e=>e),(ce.js.trans a3).up (by omega)⟩,fun g c bp=>by rw[kq]at bp;cases bp⟩
    | some g5=>
     obtain⟨rfl,ρ5,A5,J5,sj,et,EH,Ag⟩:=hF.yes g5 te;have ft:stepDel f b key=some (g5,c):=by rw[Ca.out,if_neg mm.out.1,if_pos (by have:=ry.out;omega),te];rfl
     have HR:=aA (show Dn 24 (fun _=>True) w ρ P A f J w5 ρ5 A5 g5 J5∧Tch c J5∧Sz (K+20) g5 from⟨⟨sj.st,ce.mv.trans sj.mv (fun _ _ e=>e),(ce.js.trans sj.js).up (by omega),(ce.ad.trans sj.ad).up fun _ _=>trivial⟩,sj.js.tch c CK,Ag.up (by omega)⟩);have HY:=aA ft;clear ft hF sj Ag ce;go_wp2;go_ret;obtain⟨BH,P7,zn⟩:=HR.out;refine⟨fun q=>(by rw[HY.out]at q;cases q),fun g' c' bp=>?_⟩;rw[HY.out]at bp;cases bp;exact⟨ρ5,A5,J5,q3,rfl,EH.trans Az,(et.trans GS).trans hφ.symm,BH,P7,zn⟩
   ·have Bi:¬((i1:Nat):Int) <(es2.length:Int):=by omega
    go_wp2_with fail
    refine(fW q3 (kc,ces) _ junk3 _ qz).mono ?_;rintro e w4 ⟨rfl,cn⟩;rw[cn];clear cn w4;go_wp2_with fail;refine(yM (K:=K+10) w3 ρ3 P A3 g1 J3 t H Pt b h lo hi es2 i c kc ces q q3 ce.st w2' p2 m1 (by have:=ry.out;have:=HM.out.1;omega) (by have:=HM.out.1;omega) HM.out.2.symm hd m6 mm.out.2 GS Az vq (by omega) (by omega) (by omega) E1 CK).mono ?_;intro e w5 hF;cases te:fillLast g1 b i c with
    | none=>
     obtain⟨rfl,ρ5,A5,g5,J5,a1,a2,a3⟩:=hF.no te;have kq:stepDel f b key=none:=by rw[Ca.out,if_neg mm.out.1,if_neg (by have:=ry.out;omega),te];rfl
     exact⟨rfl,fun _=>⟨rfl,ρ5,A5,g5,J5,a1,ce.mv.trans a2 (fun _ _ e=>e),(ce.js.trans a3).up (by omega)⟩,fun g c bp=>by rw[kq]at bp;cases bp⟩
    | some g5=>
     obtain⟨rfl,ρ5,A5,J5,sj,et,EH,Ag⟩:=hF.yes g5 te;have ft:stepDel f b key=some (g5,c):=by rw[Ca.out,if_neg mm.out.1,if_neg (by have:=ry.out;omega),te];rfl
     have HR:=aA (show Dn 24 (fun _=>True) w ρ P A f J w5 ρ5 A5 g5 J5∧Tch c J5∧Sz (K+20) g5 from⟨⟨sj.st,ce.mv.trans sj.mv (fun _ _ e=>e),(ce.js.trans sj.js).up (by omega),(ce.ad.trans sj.ad).up fun _ _=>trivial⟩,sj.js.tch c CK,Ag.up (by omega)⟩);have HY:=aA ft;clear ft hF sj Ag ce;go_wp2;go_ret;obtain⟨BH,P7,zn⟩:=HR.out;refine⟨fun q=>(by rw[HY.out]at q;cases q),fun g' c' bp=>?_⟩;rw[HY.out]at bp;cases bp;exact⟨ρ5,A5,J5,q3,rfl,EH.trans Az,(et.trans GS).trans hφ.symm,BH,P7,zn⟩
structure RmP(k:Nat)(L:Int)(w:World)(ρ:Nat→Nat)(P:Nat)(A:Adr)(f:fZ)(J:List aQ)(r:Option fZ)(e:Ending)(w':World):Prop where
 no:r=none→Pk k w ρ P f J e w'
 yes:∀g,r=some g→e=.returned (.tuple #[])∧∃ρ' A' J',Dn k (fun _=>True) w ρ P A f J w' ρ' A' g J'∧Sz L g
structure RmR(w:World)(ρ:Nat→Nat)(P:Nat)(A:Adr)(f:fZ)(J:List aQ)(K:Int)(t H:Nat)(key:ByteArray)(r:Option fZ)(h:Nat)(v:Value)(W:World):Prop where
 le:h≤H
 ex:∃q b ρ' A' f' J' H' Pt lo hi,v=.pointer (some ⟨q,0,none⟩)∧A'.φ b=some q∧Dn (12+25*(H-h)) (fun _=>True) w ρ P A f J W ρ' A' f' J'∧Sz (K+10+20*((H-h:Nat):Int)) f'∧Wk f' t H'∧aN f' t H' Pt b h lo hi∧(Pt≠[]→3≤sz f'.nodes b)∧cD f' t H'∧Mem f'.nodes h b key∧Tch b J'∧delAt h f' t b key=r
theorem aET{K:Int}(w:World)(ρ:Nat→Nat)(P:Nat)(A:Adr)(f:fZ)(J:List aQ)(t H:Nat)(key:ByteArray)(sb:St w ρ P A f J)(hW:Wk f t H)(ez:cD f t H)(jw:Mem f.nodes H (aB f t) key)(hz:Sz K f)(sw:1≤K)(hK:K+20*(H+3)≤600000)(ku:J.length+25*(H+3)≤500000):
  Calls Tryz.prog 102 #[.pointer (some ⟨P,0,none⟩),.pointer (some ⟨A.ra,t*2+1,none⟩),.string key] w (RmP (25*(H+3)) (K+20*(H+3)) w ρ P A f J (bV f t H key)):=by
 have hL:dO f (.root t):=hW.tl;have Pp:gS A (.root t) ⟨A.ra,t*2+1,none⟩:=rfl;go_enter Tryz.func102,Tryz.ntmps102;go_wp2_with fail;refine(iE w ρ P A f J (.root t) ⟨A.ra,t*2+1,none⟩ sb hW.ic hz sw (by omega) (by omega) hL Pp (fun b i e=>by cases e)).mono ?_;intro e w3 hT;cases al:shadow f (.root t)with
 | none=>
  obtain⟨rfl,ρ3,A3,g3,J3,a1,a2,a3⟩:=hT.no al;have kq:bV f t H key=none:=by simp only[bV,al]
  exact⟨rfl,fun _=>⟨rfl,ρ3,A3,g3,J3,a1,a2,a3.up (by omega)⟩,fun g bp=>by rw[kq]at bp;cases bp⟩
 | some gc=>
  obtain⟨g1,r⟩:=gc;obtain⟨ρ3,A3,J3,q3,rfl,Az,bg,CK,vq⟩:=hT.yes g1 r al;obtain⟨w1,p1,a1,a2,a3,a4,a5,a6⟩:=hW.shadow_root al;have Mz:Mem g1.nodes H r key:=(hW.shadow_root_mem al key H).1 jw;have HD:Hid (bV f t H key=delAt H g1 t r key):=by
   show bV f t H key=_
   simp only[bV,al]
  obtain⟨m,vo,od⟩:=lR (RmR w ρ P A f J K t H key (bV f t H key));have Ep:=aA vo;have Er:=aA od;have HX:=aA (aI hK ku);have DR:∃h0,RmR w ρ P A f J K t H key (bV f t H key) h0 (.pointer (some ⟨q3,0,none⟩)) w3:=
   ⟨H,nR _,q3,r,ρ3,A3,g1,J3,H,_,_,_,rfl,Az,⟨bg.st,bg.mv,bg.js.up (by omega),bg.ad.top⟩,vq.up (by omega),w1,p1,fun q=>absurd rfl q,a5 ez,Mz,CK,HD.out.symm⟩
  clear vo od hK ku bg hT HD;go_wp2;go_loopw [6] (fun v wr=>∃h,RmR w ρ P A f J K t H key (bV f t H key) h v wr) (fun v wr=>m v wr)
  case atStart=>exact DR
  case round=>
   obtain⟨h',E0⟩:=hrel;have hR:=Ep.out _ _ _ E0;clear E0 DR;obtain⟨h,Hh⟩:=exH (m u6 wr);rw[←Hh.out]at hR;obtain⟨pr,q,b,ρ4,A4,f4,J4,H',Pt,lo,hi,rfl,rx,bg,i5,w4,p4,h3,NH,Gy,E1,xt⟩:=hR;have mq:=aA pr;have Np:=aA xt;clear pr xt;cases h with
   | succ h=>
    obtain⟨es,af,so,av⟩:=p4.inner w4;obtain⟨q',junk,e1,ww,wu,hN⟩:=bg.st.getNode af;rw[rx]at e1;cases e1;have VA:2≤sz f4.nodes b:=by
     by_cases hP:Pt=[]
     ·rcases p4.top with⟨_,q,q'⟩ | ⟨q,_⟩
      ·rcases NH with hr | hr
       ·omega
       ·rw[←q]at hr;exact hr
      ·rw[hP]at q;cases q
     ·have:=h3 hP;omega
    have c0:wr.cell? ⟨q,0,none⟩=some (.int .i64 2):=by rw[hN.box.cell];rfl
    go_wp2_with fail
    refine(aBT (K:=K+10+20*((H -(h+1):Nat):Int)) wr ρ4 P A4 f4 J4 t H' Pt b h lo hi key q bg.st w4 p4 VA rx i5 (by omega) (by have:=HX.out;have:=mq.out;omega) (by have:=HX.out;have:=bg.js.len;have:=mq.out;omega) E1).mono ?_;intro e w5 hS;cases ml:stepDel f4 b key with
    | none=>
     obtain⟨rfl,ρ5,A5,g5,J5,b1,b2,b3⟩:=hS.no ml;have kq:bV f t H key=none:=by rw[←Np.out];unfold delAt;rw[ml]
     exact⟨rfl,fun _=>⟨rfl,ρ5,A5,g5,J5,b1,bg.mv.trans b2 (fun _ _ e=>e),(bg.js.trans b3).up (by have:=mq.out;omega)⟩,fun g bp=>by rw[kq]at bp;cases bp⟩
    | some gc=>
     obtain⟨g5,c5⟩:=gc;obtain⟨ρ5,A5,J5,q5,rfl,Oe,SI,mo,Ii,Ag⟩:=hS.yes g5 c5 ml;have Hq:A5.φ b=some q:=SI.trans rx;have sj:Dn (12+25*(H -(h+1))+24) (fun _=>True) w ρ P A f J w5 ρ5 A5 g5 J5:=⟨mo.st,bg.mv.trans mo.mv (fun _ _ e=>e),bg.js.trans mo.js,(bg.ad.trans mo.ad).up fun _ _=>trivial⟩;have Vj:Tch b J5:=mo.js.tch b E1;rcases aAV w4 p4 h3 NH Gy ml with⟨es5,n1,n2,n3,n4,⟨P',lo',ak,n5⟩,n6,n7,n8⟩ | ⟨e5,n1,n2,n3,n4,n5,n6,H5,n7,n8,n9,n10⟩
     ·obtain⟨q',junk5,e1,-,-,ix⟩:=mo.st.getNode n1
      rw[Hq]at e1;cases e1;obtain⟨ab,pn⟩:∃ab,ab=A5.α b:=⟨_,rfl⟩;rw[←pn]at ix;have c5':w5.cell? ⟨q,1,none⟩=some (.slice (adr ab) es5.length (es5.length+junk5.length)):=by rw[ix.box.cell];rfl
      have XO:es5.length+junk5.length≤maxLen:=ix.small;have Wr:((es5.length:Int) == 1)=false:=by simp;omega
      have ly:RmR w ρ P A f J K t H key (bV f t H key) h (.pointer (some ⟨q5,0,none⟩)) w5:=
       ⟨by have:=mq.out;omega,q5,c5,ρ5,A5,g5,J5,H',P',lo',ak,rfl,Oe,⟨sj.st,sj.mv,sj.js.up (by have:=mq.out;omega),sj.ad⟩,Ag.up (by have:=mq.out;omega),n4,n5,fun _=>n6,n7,n8,Ii,by rw[←n3];exact Np.out⟩
      clear hS mo bg sj ix pn n2 n3;go_wp2;go_roundw
      case rel=>exact⟨h,ly⟩
      case measure=>
       have h1:=Er.out _ _ _ ly;have h2:=Hh.out;exact Nat.lt_of_le_of_lt h1 (by show h<m _ _;rw[←h2];exact Nat.lt_succ_self h)
     ·obtain⟨q',junk5,e1,SG,SE,ix⟩:=mo.st.getNode n1
      rw[Hq]at e1;cases e1;obtain⟨gb,OQ⟩:=ix.arrOf (by simp);rw[OQ]at ix;have c5':w5.cell? ⟨q,1,none⟩=some (.slice (some ⟨gb,0,none⟩) 1 (1+junk5.length)):=by rw[ix.box.cell];rfl
      have LF:A5.ra=A.ra:=sj.ad.ra;have h0:0≤(g5.roots.getD t (0,0)).2:=(n5.rb _ (aO n4)).1;obtain⟨EH,-⟩:=mo.st.rootCell n4 h0;rw[←n3,LF]at EH;have sc:c5≠b:=fun e=>by
       have hk:c5∈kids (2,[e5]):=by rw[←n2];simp[kids]
       rw[e]at hk;exact n5.not_self n1 hk
      have EB:b<g5.cur.length:=Ag.lt b _ n1;have MY:e5.2.2=(c5:Int):=by
       have:=n5.child_pos n1 (j:=0) (by simp)
       rw[←n2];unfold ch;have e6:([e5]:List E3).getD 0 e0=e5:=rfl;rw[e6]at this;omega
      have HN:=aA (aI n1 (aI n3 n6));have Ev:=sj.js.len;clear n3 n6;go_wp2_with fail;refine(aGR w5 ρ5 P A5 g5 J5 b mo.st Ag (by have:=HX.out;have:=mq.out;omega) EB).mono ?_;rintro e w6 ⟨rfl,ρ6,kv,BM,Cg⟩;have lw:∀x,(x=cE b∨x=cB b)→¬(x=1∨x=6∨x=3∨x=4):=fun x e=>by unfold cE cB at e;omega
      have y9:aK w6 q (2,[e5]) (some gb) junk5:=ix.frm Cg (by rw[SG];exact lw _ (.inl rfl)) (fun x e=>by cases e;rw[SE gb OQ];exact lw _ (.inr rfl));have c6:w6.cell? ⟨q,1,none⟩=some (.slice (some ⟨gb,0,none⟩) 1 (1+junk5.length)):=by rw[y9.box.cell];rfl
      have c7:w6.cell? ⟨gb,2,none⟩=some (.int .i64 c5):=by
       have:=(bF (y9.arr gb rfl).1 (i:=0) (by simp)).2.2
       rw[show(([e5]++junk5:List E3).getD 0 e0)=e5 from rfl,MY]at this;simpa using this
      have Po:dO (freeB g5 b) (.root t):=n4;obtain⟨vr,c8,YE,-⟩:=kv.locCell Po (p:=⟨A.ra,t*2+1,none⟩) (by show _=_;rw[←LF];rfl);obtain⟨it,TB⟩:=kv.setLoc Po (p:=⟨A.ra,t*2+1,none⟩) (by show _=_;rw[←LF];rfl) c5;have Hn:Sz (K+10+20*((H -(h+1):Nat):Int)+20) (setL (freeB g5 b) (.root t) c5):=by
       have ru:Sz (K+10+20*((H -(h+1):Nat):Int)+20) (freeB g5 b):=(Ag.setC b (v:=0) (by omega) (by omega)).noN b;exact ru.setL Po c5
      have Pi:JS (12+25*(H -(h+1))+24+1+0+0) f J (setL (freeB g5 b) (.root t) c5) (J5++[(b,cu g5 b,g5.nodes b)]):=((sj.js.trans (JS.save EB)).trans (JS.freeB Tch.saved)).trans (JS.setL (.root t) c5 fun b' i' e=>(by cases e));have TT:Tch c5 (J5++[(b,cu g5 b,g5.nodes b)]):=(JS.save EB).tch c5 Ii;have Gr:setL (freeB g5 b) (.root t) c5=fallF g5 t (aB g5 t) c5:=by rw[←HN.out.2.1];rfl
      rw[Gr]at it Hn Pi;have Lo:AdS (fun _=>True) A (gP A5 b):=(sj.ad.trans (AdS.del A5 b)).up fun _ _=>trivial;have ly:RmR w ρ P A f J K t H key (bV f t H key) h (.pointer (some ⟨q5,0,none⟩)) (w6.setCell ⟨A.ra,t*2+1,none⟩ (.int .i64 (c5:Int))):=
       ⟨by have:=mq.out;omega,q5,c5,ρ6,gP A5 b,_,_,H5,[],none,none,rfl,(aC _ _ sc).trans Oe,⟨it,(sj.mv.trans BM (fun _ _ e=>e)).trans TB (fun _ _ e=>e),Pi.up (by have:=mq.out;omega),Lo⟩,Hn.up (by have:=mq.out;omega),n7,n8,fun q=>absurd rfl q,n9,n10,TT,by rw[←HN.out.2.2];exact Np.out⟩
      clear hS mo bg sj ix y9 kv it BM TB Cg Hn Pi TT Gr Lo MY;go_wp2;go_roundw
      case rel=>exact⟨h,ly⟩
      case measure=>
       have h1:=Er.out _ _ _ ly;have h2:=Hh.out;exact Nat.lt_of_le_of_lt h1 (by show h<m _ _;rw[←h2];exact Nat.lt_succ_self h)
   | zero=>
    obtain⟨es,af,so,xr⟩:=p4.leaf w4;obtain⟨es',e1,j,hj,hk⟩:=Gy;rw[af]at e1;cases e1;have ai:cLt es key<es.length:=by rw[(jW so.srt hj hk).2];exact hj
    obtain⟨q',junk,e1,ww,wu,hN⟩:=bg.st.getNode af;rw[rx]at e1;cases e1;have fj:=i5.ent b _ af;simp only at fj;have d9:b<f4.cur.length:=i5.lt b _ af;obtain⟨g,hg⟩:=hN.arrOf (by simp only;omega);rw[hg]at hN;have Ec:bV f t H key=some (setN f4 b (1,delE es (cLt es key))):=by rw[←Np.out];unfold delAt;rw[aE af]
    have Ah:=aA Ec;clear Ec;have c0:wr.cell? ⟨q,0,none⟩=some (.int .i64 1):=by rw[hN.box.cell];rfl
    have c1:wr.cell? ⟨q,1,none⟩=some (.slice (some ⟨g,0,none⟩) es.length (es.length+junk.length)):=by rw[hN.box.cell];rfl
    have DJ:NRd wr (.slice (some ⟨g,0,none⟩) es.length (es.length+junk.length)) es:=hN.esl.nrd;go_wp2_with fail;refine(gX _ es key _ DJ (by omega) so.srt).mono ?_;rintro e w5 ⟨cw,he⟩;have E8:e=.returned (.tuple #[.int .i64 (cLt es key),.bool (fC es key)]):=he;subst E8;have cq:=bg.st.below cw;have ix:=hN.below cw;obtain⟨i,HI⟩:=exH (cLt es key);rw[←HI.out]at ai ⊢;clear hN DJ c0 c1;go_wp2_with fail;refine(gO q g 1 es junk i w5 ix fj ai).mono ?_;rintro e w6 ⟨rfl,⟨junk6,y9⟩,Cg⟩;obtain⟨kv,BM⟩:=cq.nodeSame af rx (Cg.wide fun x _ e=>by rcases e with e | e;exact .inl e;right;rw[hg,e]) (by rw[hg];exact y9);rw[HI.out]at kv;have HF:=aA (show Dn (25*(H+3)) (fun _=>True) w ρ P A f J w6 ρ4 A4 (setN f4 b (1,delE es (cLt es key))) J4∧Sz (K+20*(H+3)) (setN f4 b (1,delE es (cLt es key)))from
     ⟨⟨kv,(bg.mv.trans (Mv.of_below cw) (fun _ _ e=>e)).trans BM (fun _ _ e=>e),(bg.js.trans (JS.setN _ E1)).up (by omega),bg.ad⟩,(i5.up (by omega)).setN d9 (by have:=bI es (cLt es key) (by rw[←HI.out];exact ai);simp only;omega)⟩)
    clear kv BM y9 Cg cq ix bg;go_wp2;first | go_end0 | refine bodyPost_ret (results_none rfl _ _ _) rfl ?_
    obtain⟨BH,zn⟩:=HF.out;refine⟨fun q=>(by rw[Ah.out]at q;cases q),fun g' rf=>?_⟩;rw[Ah.out]at rf;cases rf;exact⟨rfl,_,_,J4,BH,zn⟩
structure FdR(w:World)(A:Adr)(f:fZ)(key:ByteArray)(H:Nat)(r:OB)(h:Nat)(v:Value)(W:World):Prop where
 ex:∃q b lo hi,v=.pointer (some ⟨q,0,none⟩)∧A.φ b=some q∧Bl w W∧Ok f.nodes h b lo hi∧Fo.find f.nodes h b key=r
theorem aCO{K:Int}(w:World)(ρ:Nat→Nat)(P:Nat)(A:Adr)(f:fZ)(J:List aQ)(H b:Nat)(lo hi:OB)(key:ByteArray)(sb:St w ρ P A f J)(hI:IC f)(kf:Ok f.nodes H b lo hi)(hz:Sz K f):
  Calls Tryz.prog 100 #[.pointer (some ⟨P,0,none⟩),.int .i64 b,.string key] w fun e w'=>e=.returned (.tuple #[.string ((Fo.find f.nodes H b key).getD .empty),.bool (Fo.find f.nodes H b key).isSome])∧Bl w w':=by
 obtain⟨ja,jp,jj,hR,hJ⟩:=id sb;have T0:=hz.n512;have Mw:∀(W:World) (x q:Nat),Bl w W→A.φ x=some q→x<512→(Instr.lookup 68 (.map (some A.m)) (.int .i64 x) false).run Tryz.prog W=.ok (.pointer (some ⟨q,0,none⟩)) W:=fun W x q hB hx hl=>by
  have:=(hR.hm.of (hB.block _ hR.hm.lt)).lookup x hl
  rw[hx]at this;simpa only[eT,Option.map_some] using this
 have Nv:=aA Mw;clear Mw;have en:∀(h b:Nat) (lo hi:OB),Ok f.nodes h b lo hi→∃d,f.nodes b=some d:=fun h b lo hi hk=>by
  cases h with
  | zero=>obtain⟨es,e1,_⟩:=hk;exact⟨_,e1⟩
  | succ h=>obtain⟨es,e1,_⟩:=hk;exact⟨_,e1⟩
 obtain⟨d,hd⟩:=en _ _ _ _ kf;obtain⟨q0,junk0,UM,-,-,Ey⟩:=sb.getNode hd;have d9:=hz.lt b d hd;have m3:=hR.cells.m3;have Ju:=Nv.out w b q0 (bQ _ _) UM (by omega);obtain⟨m,vo,od⟩:=lR (FdR w A f key H (Fo.find f.nodes H b key));have Ep:=aA vo;have Er:=aA od;have DR:∃h0,FdR w A f key H (Fo.find f.nodes H b key) h0 (.pointer (some ⟨q0,0,none⟩)) w:=⟨H,q0,b,lo,hi,rfl,UM,bQ _ _,kf,rfl⟩;have Ul:=aA en;generalize hr:Fo.find f.nodes H b key=r at *;clear vo od en;have DL:=hR.hP.lt;go_enter Tryz.func100,Tryz.ntmps100;go_wp2;clear Ju;go_loopw [8] (fun v wr=>∃h,FdR w A f key H r h v wr) (fun v wr=>m v wr)
 case atStart=>exact DR
 case round=>
  obtain⟨h',E0⟩:=hrel;have TM:=Ep.out _ _ _ E0;clear E0 DR;obtain⟨h,Hh⟩:=exH (m u8 wr);rw[←Hh.out]at TM;obtain⟨q,b,lo,hi,rfl,hφ,hB,kf,hf⟩:=TM;have hS:=sb.frm (w':=wr) (Frm.of_below hB);have n3:wr.cell? ⟨P,3,none⟩=some (.map (some A.m)):=(hB.cell (p:=⟨P,3,none⟩) DL).trans m3;cases h with
  | succ h=>
   obtain⟨es,af,so,av,e4,e5⟩:=kf;obtain⟨q',junk,e1,-,-,hN⟩:=hS.getNode af;rw[hφ]at e1;cases e1;have fj:=hz.ent b _ af;simp only at fj;obtain⟨g,hg⟩:=hN.arrOf (by simp only;exact List.length_pos_iff.2 av);rw[hg]at hN;have jd:bK es key<es.length:=eB key av;obtain⟨c,Hc⟩:=exH (kd es (bK es key));obtain⟨dc,i9⟩:=Ul.out _ _ _ _ (e5 _ jd).2;rw[←Hc.out]at i9;obtain⟨qc,junkc,CZ,-,-,-⟩:=hS.getNode i9;have au:=hz.lt c _ i9;have pp:(es.getD (bK es key) e0).2.2=(c:Int):=by
    have:=hI.child_pos af jd
    rw[Hc.out];unfold kd ch;omega
   have sn:Fo.find f.nodes h c key=r:=by
    rw[←hf,Hc.out];conv=>rhs;unfold Fo.find;rw[cH af]
   have M9:=(e5 _ jd).2;rw[←Hc.out]at M9;have JZ:=(bF (hN.arr g rfl).1 (i:=bK es key) (by simp;omega)).2.2;rw[gD,List.getElem?_append_left jd,←gD,pp]at JZ;have br:∀W:World,Bl wr W→W.cell? ⟨P,3,none⟩=some (.map (some A.m))∧W.cell? ⟨q,1,none⟩=some (.slice (some ⟨g,0,none⟩) es.length (es.length+junk.length))∧W.cell? ⟨g,bK es key*3+2,none⟩=some (.int .i64 c)∧(Instr.lookup 68 (.map (some A.m)) (.int .i64 c) false).run Tryz.prog W=.ok (.pointer (some ⟨qc,0,none⟩)) W:=fun W hW=>by
    have L6:=hN.below hW;refine⟨(hW.cell (p:=⟨P,3,none⟩) (lL DL hB.size)).trans n3,by rw[L6.box.cell];rfl,(hW.cell (p:=⟨g,bK es key*3+2,none⟩) (hN.arr g rfl).1.lt).trans JZ,Nv.out W c qc (hB.trans (hW.mono hB.size)) CZ (by omega)⟩
   have ox:=aA br;have Mo:((bK es key:Nat):Int) <(es.length:Int):=by omega
   have c0:wr.cell? ⟨q,0,none⟩=some (.int .i64 2):=by rw[hN.box.cell];rfl
   have am:=br wr (bQ _ _);clear br JZ pp;generalize L0:bK es key=i at *;have dh:=ox.out wr.drew (bQ wr.heap.size wr).drew;go_wp2;go_region_held3 (fun W=>W.cell? ⟨P,3,none⟩=some (.map (some A.m))∧W.cell? ⟨q,1,none⟩=some (.slice (some ⟨g,0,none⟩) es.length (es.length+junk.length))∧W.cell? ⟨g,i*3+2,none⟩=some (.int .i64 c)∧(Instr.lookup 68 (.map (some A.m)) (.int .i64 c) false).run Tryz.prog W=.ok (.pointer (some ⟨qc,0,none⟩)) W) (first | go_keep | exact dh | exact ox.out _ eX) ((go_at_call 121;refine(gT q (2,es) (some g) junk key _ (hN.below (bQ _ _).drew) so.srt fj).mono ?_;rintro e w1 ⟨rfl,cw⟩;have eX:Bl wr w1:=(bQ wr.heap.size wr).drew.trans cw;obtain⟨x1,x2,x3,x4⟩:=ox.out _ eX;simp only[L0]));have OC:=hB.trans (eX.mono hB.size);have ly:FdR w A f key H r h (.pointer (some ⟨qc,0,none⟩)) w1:=⟨qc,c,_,_,rfl,CZ,OC,M9,sn⟩;clear x1 x2 x3 x4 am dh;go_wp2;go_roundw
   case rel=>exact⟨h,ly⟩
   case measure=>
    have h1:=Er.out _ _ _ ly;have h2:=Hh.out;exact Nat.lt_of_le_of_lt h1 (by show h<m _ _;rw[←h2];exact Nat.lt_succ_self h)
  | zero=>
   obtain⟨es,af,so,xr⟩:=kf;obtain⟨q',junk,e1,-,-,hN⟩:=hS.getNode af;rw[hφ]at e1;cases e1;have fj:=hz.ent b _ af;simp only at fj;obtain⟨a,ha⟩:∃a,a=A.α b:=⟨_,rfl⟩;rw[←ha]at hN;clear ha;have c0:wr.cell? ⟨q,0,none⟩=some (.int .i64 1):=by rw[hN.box.cell];rfl
   have c1:wr.cell? ⟨q,1,none⟩=some (.slice (adr a) es.length (es.length+junk.length)):=by rw[hN.box.cell];rfl
   have DJ:NRd wr (.slice (adr a) es.length (es.length+junk.length)) es:=hN.esl.nrd;have EP:r=if fC es key=true then some (es.getD (cLt es key) e0).2.1 else none:=by rw[←hf];unfold Fo.find;rw[cH af]
   have Nq:=aA EP;clear hf EP hr;go_wp2_with fail;refine(gX _ es key _ DJ (by omega) so.srt).mono ?_;rintro e w5 ⟨cw,he⟩;have E8:e=.returned (.tuple #[.int .i64 (cLt es key),.bool (fC es key)]):=he;subst E8;have OC:=hB.trans (cw.mono hB.size);by_cases hk:fC es key=true
   ·obtain⟨k1,k2⟩:=(dG es key).1 hk
    have ix:=hN.below cw;obtain⟨g,rfl⟩:=ix.arrOf (by simp only;omega);have c5:w5.cell? ⟨q,1,none⟩=some (.slice (some ⟨g,0,none⟩) es.length (es.length+junk.length)):=by rw[ix.box.cell];rfl
    have c6:=(bF (ix.arr g rfl).1 (i:=cLt es key) (by simp;omega)).2.1;rw[gD,List.getElem?_append_left k1,←gD]at c6;have FA:((cLt es key:Nat):Int) <(es.length:Int):=by omega
    obtain⟨v,HV⟩:=exH ((es.getD (cLt es key) e0).2.1);rw[←HV.out]at c6;rw[hk];have HK:=aA hk;clear hk k2 hN DJ c0 c1;generalize cLt es key=i at *;go_wp2;refine bodyPost_ret (v:=.tuple #[.string v,.bool true]) (by simp[results,Tryz.results100,go_sem]) rfl ?_;refine⟨?_,OC⟩;rw[Nq.out,if_pos HK.out,←HV.out];rfl
   ·have lc:fC es key=false:=by simpa using hk
    rw[lc];have HK:=aA hk;clear hk hN DJ c0 c1;go_wp2;refine bodyPost_ret (v:=.tuple #[.string ⟨#[]⟩,.bool false]) (by simp[results,Tryz.results100,go_sem]) rfl ?_;refine⟨?_,OC⟩;rw[Nq.out,if_neg HK.out];rfl
abbrev t0:Int×Int:=(0,0)
theorem vL(l:List (Int×Int)):(cS l).size=l.length*2:=by unfold cS;rw[List.size_toArray,bL]
theorem aLV:(Tryz.prog.info? 77).map (fun i=>(i.zero,i.size,i.bytes))=some (some (.agg #[.int .i64 0,.int .i64 0]),2,16):=by kernel_rfl
theorem aCS:∃i,Tryz.prog.info? 77=some i∧i.size=2∧i.bytes=16∧i.zero=some (.agg #[.int .i64 0,.int .i64 0]):=by
 have h:=aLV;cases e:Tryz.prog.info? 77 with
 | none=>rw[e]at h;cases h
 | some i=>
  rw[e]at h;simp only[Option.map_some,sJ,Prod.mk.injEq]at h;exact⟨i,rfl,h.2.1,h.2.2,h.1⟩
theorem aFE(es junk vs:List (Int×Int))(h:vs.length≤junk.length):spl (es++junk) es.length vs=es++vs++junk.drop vs.length:=by
 unfold spl;rw[List.take_left,←List.drop_drop,List.drop_left]
theorem aMZ{need old:Nat}(h:need≤1000000)(ho:old<need):Builtin.nextslicecap need old*16≤281474976710656:=growslice_fits (bytes:=16) (need:=need) (old:=old) (by omega) (by omega)
theorem lM(es:List (Int×Int)):∀v∈es.flatMap aT,v.oneCell'=true:=fun v hv=>by
 obtain⟨e,_,he⟩:=List.mem_flatMap.1 hv;simp only[aT,List.mem_cons,List.not_mem_nil,or_false]at he;rcases he with rfl | rfl<;>rfl
theorem vP(xs ys:List (Int×Int))(i:Nat):spl (xs.flatMap aT) (i*2) (ys.flatMap aT)=(spl xs i ys).flatMap aT:=by
 have tk:∀(l:List (Int×Int)) (n:Nat),(l.flatMap aT).take (n*2)=(l.take n).flatMap aT:=by
  intro l;induction l with
  | nil=>intro n;simp
  | cons e l ih=>
   intro n;cases n with
   | zero=>simp
   | succ n=>
    have l3:(aT e).length=2:=rfl;rw[List.flatMap_cons,List.take_succ_cons,List.flatMap_cons,List.take_append,l3,List.take_of_length_le (by rw[l3];omega),show(n+1)*2-2=n*2 by omega,ih]
 have dr:∀(l:List (Int×Int)) (n:Nat),(l.flatMap aT).drop (n*2)=(l.drop n).flatMap aT:=by
  intro l;induction l with
  | nil=>intro n;simp
  | cons e l ih=>
   intro n;cases n with
   | zero=>simp
   | succ n=>
    have l3:(aT e).length=2:=rfl;rw[List.flatMap_cons,List.drop_succ_cons,List.drop_append,l3,List.drop_of_length_le (by rw[l3];omega),show(n+1)*2-2=n*2 by omega,ih,List.nil_append]
 unfold spl;rw[tk,bL,←Nat.add_mul,dr,List.flatMap_append,List.flatMap_append]
def Tsl(w:World)(v:Value)(es:List (Int×Int)):Prop:=
 (v=.slice none 0 0∧es=[])∨∃g o cap xs,v=.slice (some ⟨g,o*2,none⟩) es.length cap∧IsC w g (cS xs) 77∧o+es.length≤xs.length∧(xs.drop o).take es.length=es
theorem Tsl.cells{w:World}{g o:Nat}{xs es:List (Int×Int)}(h:IsC w g (cS xs) 77)(hl:o+es.length≤xs.length)(he:(xs.drop o).take es.length=es):∀j v,(es.flatMap aT)[j]?=some v→w.cell? ((⟨g,o*2,none⟩:Addr).add j)=some v:=fun j v hj=>by
 have tw:(⟨g,o*2,none⟩:Addr).add j=⟨g,o*2+j,none⟩:=by unfold Addr.add;split<;>simp_all
 rw[tw,h.cell];have e1:spl (xs.flatMap aT) (o*2) (es.flatMap aT)=xs.flatMap aT:=by
  rw[vP];congr 1;unfold spl;rw[←he,List.length_take,List.length_drop,List.append_assoc];rw[show min es.length (xs.length-o)=es.length by omega];rw[←List.drop_drop,List.take_append_drop,List.take_append_drop]
 have yg:j <(es.flatMap aT).length:=(List.getElem?_eq_some_iff.1 hj).1;have:(cS xs)[o*2+j]?=(xs.flatMap aT)[o*2+j]?:=by simp[cS]
 rw[this,←e1];unfold spl;have pr:((xs.flatMap aT).take (o*2)).length=o*2:=by
  rw[List.length_take,bL];omega
 rw[List.append_assoc,List.getElem?_append_right (by omega),pr,show o*2+j-o*2=j by omega,List.getElem?_append_left yg];exact hj
theorem aIR(m:Nat):Builtin.zeroCells #[.int .i64 0,.int .i64 0] m=((List.replicate m t0).flatMap aT).toArray:=by
 apply Array.toList_inj.1
 simp only[Builtin.zeroCells,List.size_toArray,List.length_cons,List.length_nil,Array.toList_map,Array.toList_range];induction m with
 | zero=>rfl
 | succ m ih=>
  have hr:List.range ((m+1)*2)=List.range (m*2)++[m*2,m*2+1]:=by
   rw[show(m+1)*2=m*2+1+1 by omega,List.range_succ,List.range_succ];simp
  have hp:List.replicate (m+1) t0=List.replicate m t0++[t0]:=List.replicate_succ';rw[hp,List.flatMap_append,←ih];simp only[Nat.zero_add,Nat.reduceAdd];rw[hr,List.map_append];congr 1;simp only[List.map_cons,List.map_nil,show m*2 % 2=0 by omega,show(m*2+1) % 2=1 by omega];rfl
theorem aFX(a:Option Nat)(es junk vs:List (Int×Int))(v:Value)(W:World)(ha:∀g,a=some g→IsC W g (cS (es++junk)) 77)(hn:a=none→es=[]∧junk=[])(hv:Tsl W v vs)(Ai:es.length+vs.length≤1000000)(hm:es.length+junk.length≤maxLen):
  ∃u W' a' junk',(∀ty,(Builtin.append_ #[55,55] ty #[.slice (adr a) es.length (es.length+junk.length),v]).run Tryz.prog W=.ok u W')∧u=.slice (adr a') (es.length+vs.length) (es.length+vs.length+junk'.length)∧
   (∀g,a'=some g→IsC W' g (cS (es++vs++junk')) 77∧(a=some g∨W.heap.size≤g))∧(a'=none→es=[]∧vs=[]∧junk'=[])∧es.length+vs.length+junk'.length≤maxLen∧Frm (fun k=>a=some k) W W':=by
 obtain⟨i0,hi,h3,Aj,hz⟩:=aCS;have d8:Src Tryz.prog i0.size 55 v vs.length (vs.flatMap aT) W:=by
  rcases hv with⟨rfl,rfl⟩ | ⟨gv,o,cap,xs,rfl,hx,hl,he⟩
  ·exact Src.ofNil W Tryz.underlying55 0
  ·exact Src.ofSlice W Tryz.underlying55 ⟨gv,o*2,none⟩ vs.length cap _ (by rw[bL,h3]) (Tsl.cells hx hl he) (lM vs)
 by_cases jq:vs.length≤junk.length
 ·cases a with
  | none=>
   obtain⟨rfl,rfl⟩:=hn rfl;have GN:vs=[]:=List.length_eq_zero_iff.1 (by simpa using jq);subst GN;refine⟨_,W,none,[],fun ty=>?_,rfl,fun g q=>(by cases q),fun _=>⟨rfl,rfl,rfl⟩,by simp,Frm.refl _ _⟩;have:=run_append_nothing (P:=Tryz.prog) W 55 55 ty 77 i0 Tryz.underlying55 hi none 0 0 (nR _) v d8;exact this
  | some g=>
   have hg:=ha g rfl;refine⟨_,_,some g,junk.drop vs.length,fun ty=>run_append_room_src (P:=Tryz.prog) W 55 55 ty 77 i0 Tryz.underlying55 hi g 0 es.length (es.length+junk.length) v _ _ d8 (by omega)
    (fun k hk=>by rw[bL]at hk;rw[hg.cell,h3,Array.getElem?_eq_getElem (by rw[vL,lP];omega)];rfl) (fun k hk=>hg.frozen _),?_,fun g' q=>?_,fun q=>(by cases q),?_,?_⟩
   ·simp[adr];omega
   ·cases q
    refine⟨?_,.inl rfl⟩;have:=IsC.sets (vs.flatMap aT) (cs:=(es++junk).flatMap aT) (es.length*2) hg (by rw[bL,bL,lP];omega);rw[vP,aFE _ _ _ jq]at this;rw[h3,Nat.zero_add];exact this
   ·simp;omega
   ·exact Frm.sets (S:=fun k=>some g=some k) _ rfl _ _
 ·have sn:(Builtin.firstCells i0.size es.length (.slice (adr a) es.length (es.length+junk.length))).run Tryz.prog W.drew=.ok (es.flatMap aT).toArray W.drew:=by
   cases a with
   | none=>
    obtain⟨rfl,rfl⟩:=hn rfl;exact run_firstCells_none (P:=Tryz.prog) W.drew i0.size 0 0 0
   | some g=>
    have hg:=ha g rfl;exact run_firstCells_some (P:=Tryz.prog) W.drew i0.size es.length ⟨g,0,none⟩ es.length _ (es.flatMap aT) (by rw[bL,h3]) (by
     have:=Tsl.cells (w:=W.drew) (g:=g) (o:=0) (xs:=es++junk) (es:=es) hg.drew (by rw[lP];omega) (by simp)
     rw[Nat.zero_mul]at this;exact this)
  have hr:=fun ty=>run_append_grow_src (P:=Tryz.prog) W 55 55 ty 77 i0 _ Tryz.underlying55 hi hz (adr a) es.length (es.length+junk.length) (es.flatMap aT) sn v vs.length (vs.flatMap aT) d8 (by omega) (by omega) (by rw[Aj];exact aMZ (by omega) (by omega));have xz:=grownCap_ge W (es.length+vs.length) (es.length+junk.length) 77;have pr:=grownCap_le_maxLen W (es.length+vs.length) (es.length+junk.length) 77 (by simp[maxLen];omega);generalize grownCap W (es.length+vs.length) (es.length+junk.length) 77=gc at *;refine⟨_,_,some W.heap.size,List.replicate (gc -(es.length+vs.length)) t0,hr,?_,fun g q=>?_,fun q=>(by cases q),?_,?_⟩
  ·simp[adr];omega
  ·cases q
   refine⟨?_,.inr (nR _)⟩;have au:(Value.agg #[.int .i64 0,.int .i64 0]).cells=#[.int .i64 0,.int .i64 0]:=by kernel_rfl
   have:=IsC.new W.drew ((es.flatMap aT++vs.flatMap aT).toArray++Builtin.zeroCells (Value.agg #[.int .i64 0,.int .i64 0]).cells (gc -(es.length+vs.length))) 77
   have e:cS (es++vs++List.replicate (gc -(es.length+vs.length)) t0)=(es.flatMap aT++vs.flatMap aT).toArray++Builtin.zeroCells (Value.agg #[.int .i64 0,.int .i64 0]).cells (gc -(es.length+vs.length)):=by
    rw[au,aIR];simp[cS]
   rw[e];exact this
  ·simp;omega
  ·exact(Frm.drew _ W).trans (Frm.alloc _ _ _)
structure aMW(w w':World)(v:Value)(es:List (Int×Int)):Prop where
 ex:∃a junk,v=.slice (adr a) es.length (es.length+junk.length)∧(∀g,a=some g→w.heap.size≤g∧IsC w' g (cS (es++junk)) 77)∧(a=none→es=[]∧junk=[])∧es.length+junk.length≤maxLen
 below:Bl w w'
theorem aAQ(v:Value)(es:List (Int×Int))(w:World)(hv:Tsl w v es)(fj:es.length≤100):
  Calls Tryz.prog 110 #[v] w fun e w'=>∃v',e=.returned v'∧aMW w w' v' es:=by
 obtain⟨i,hi,h3,Aj,hz⟩:=aCS;rcases hv with⟨rfl,rfl⟩ | ⟨g,o,cap,xs,rfl,hx,hl,he⟩
 ·have AV:=fun w=>Lib.run_eql_slice_nil (P:=Tryz.prog) w 55 77 none 0 0 0 0 Tryz.underlying55
  go_enter Tryz.func110,Tryz.ntmps110
  go_wp2
  go_ret
  exact⟨_,rfl,⟨none,[],by simp[adr],fun g q=>(by cases q),fun _=>⟨rfl,rfl⟩,by simp⟩,bQ _ _⟩
 ·have AV:=fun w=>Lib.run_eql_slice_nil (P:=Tryz.prog) w 55 77 (some ⟨g,o*2,none⟩) es.length cap 0 0 Tryz.underlying55
  have yt:IsC (w.alloc (.cells #[] 77)) g (cS xs) 77:=hx.alloc _;have d8:=Src.ofSlice (P:=Tryz.prog) (w.alloc (.cells #[] 77)) (size:=i.size) (tx:=55) Tryz.underlying55 ⟨g,o*2,none⟩ es.length cap (es.flatMap aT) (by rw[bL,h3]) (Tsl.cells yt hl he) (lM es);have hB:=(bQ w.heap.size w).alloc (nR _) (.cells #[] 77);by_cases h0:es.length=0
  ·have ee0:es=[]:=List.length_eq_zero_iff.1 h0
   subst ee0;have M6:=fun w=>Lib.run_eql_slice_nil (P:=Tryz.prog) w 55 77 (some ⟨g,o*2,none⟩) 0 cap 0 0 Tryz.underlying55;have hr:=fun ty=>run_append_room_src (P:=Tryz.prog) (w.alloc (.cells #[] 77)) 55 55 ty 77 i Tryz.underlying55 hi w.heap.size 0 0 0 _ 0 [] d8 (by omega) (fun j hj=>by simp at hj) (fun j hj=>by simp at hj);go_enter Tryz.func110,Tryz.ntmps110;go_wp2_with (at_builtin;refine cG rfl _ _ _ _ rfl (.slice (some ⟨w.heap.size,0,none⟩) 0 0) (.slice (some ⟨g,o*2,none⟩) 0 cap) rfl rfl _ _ (hr _) ?_);go_ret;exact⟨_,rfl,⟨some w.heap.size,[],by simp[adr],fun g q=>(by cases q;exact⟨nR _,IsC.new _ _ _⟩),fun q=>(by cases q),by simp⟩,hB⟩
  ·have sn:(Builtin.firstCells i.size 0 (.slice (some ⟨w.heap.size,0,none⟩) 0 0)).run Tryz.prog (w.alloc (.cells #[] 77)).drew=.ok ([]:List Value).toArray (w.alloc (.cells #[] 77)).drew:=by
    have:=run_firstCells_some (P:=Tryz.prog) (w.alloc (.cells #[] 77)).drew i.size 0 ⟨w.heap.size,0,none⟩ 0 0 [] (by simp) (fun j v hj=>by simp at hj)
    exact this
   have hr:=fun ty=>run_append_grow_src (P:=Tryz.prog) (w.alloc (.cells #[] 77)) 55 55 ty 77 i _ Tryz.underlying55 hi hz (some ⟨w.heap.size,0,none⟩) 0 0 [] sn _ es.length (es.flatMap aT) d8 (by omega) (by omega) (by rw[nextslicecap_zero (by omega),Aj];omega);go_enter Tryz.func110,Tryz.ntmps110;go_wp2_with (at_builtin;refine cG rfl _ _ _ _ rfl (.slice (some ⟨w.heap.size,0,none⟩) 0 0) (.slice (some ⟨g,o*2,none⟩) es.length cap) rfl rfl _ _ (hr _) ?_);go_ret;have xz:=grownCap_ge (w.alloc (.cells #[] 77)) es.length 0 77;have pr:=grownCap_le_maxLen (w.alloc (.cells #[] 77)) es.length 0 77 (by simp[maxLen];omega);generalize grownCap (w.alloc (.cells #[] 77)) es.length 0 77=gc at *;refine⟨_,rfl,⟨some (w.heap.size+1),List.replicate (gc-es.length) t0,?_,fun g q=>?_,fun q=>(by cases q),?_⟩,?_⟩
   ·simp[adr];omega
   ·cases q
    refine⟨by omega,?_⟩;have:=IsC.new (w.alloc (.cells #[] 77)) ((es.flatMap aT).toArray++Builtin.zeroCells #[.int .i64 0,.int .i64 0] (gc-es.length)) 77;rw[World.size_alloc]at this;rw[aIR]at this ⊢;simpa [cS] using this.drew
   ·simp;omega
   ·exact(hB.alloc (by simp) _).drew
variable {w w1 : World} {ρ : Nat → Nat} {P : Nat} {A : Adr} {f : fZ} {J : List aQ}
def oB(ρ:Nat→Nat)(g:Nat):Nat→Nat:=fun x=>if x=g then 2 else ρ x
theorem St.setRoots(h:St w ρ P A f J){g:Nat}{rs rj:List (Int×Int)}(hF:Frm (fun x=>x=A.ra) w w1)(hg:IsC w1 g (cS (rs++rj)) 77)(bm:g=A.ra∨ρ g=0)(lv:rs.length+rj.length≤maxLen):
  St (w1.setCell ⟨P,0,none⟩ (.slice (some ⟨g,0,none⟩) rs.length (rs.length+rj.length))) (oB ρ g) P {A with ra:=g,rj:=rj} {f with roots:=rs} J∧Mv (fun x=>x=g∧ρ x=0) w ρ (w1.setCell ⟨P,0,none⟩ (.slice (some ⟨g,0,none⟩) rs.length (rs.length+rj.length))) (oB ρ g):=by
 have nn:ρ A.ra=2∧ρ P=1:=by obtain⟨_,_,_,h1,_⟩:=h;exact⟨h1.rr,h1.rP⟩
 have ap:∀x,ρ x≠0→x<w.heap.size:=by obtain⟨_,_,_,h1,_⟩:=h;exact h1.own
 have oa:ρ g=2∨ρ g=0:=by
  rcases bm with e | e
  ·left;rw[e];exact nn.1
  ·exact .inr e
 have Qk:g≠P:=fun e=>by rw[e,nn.2]at oa;omega
 have k:Frm (fun x=>x=A.ra∨x=P) w (w1.setCell ⟨P,0,none⟩ (.slice (some ⟨g,0,none⟩) rs.length (rs.length+rj.length))):=(hF.wide fun x _ e=>.inl e).trans (Frm.set w1 (p:=⟨P,0,none⟩) (.inr rfl) _);have c9:∀x,ρ x≠0→oB ρ g x=ρ x:=fun x hx=>by
  unfold oB;split
  ·rename_i e;rw[e]at hx ⊢;omega
  ·rfl
 have CY:oB ρ g g=2:=by simp[oB]
 have av:∀{x r},ρ x=r→r≠2→r≠1→¬(x=A.ra∨x=P):=fun {x r} e h1 h2 q=>by
  rcases q with q | q
  ·rw[q,nn.1]at e;exact h1 e.symm
  ·rw[q,nn.2]at e;exact h2 e.symm
 refine⟨h.of k (fun x e=>?_) (fun x _ hx=>c9 x fun e=>by rw[e]at hx;exact aCT hx) fun jv hR=>?_,k.wide (fun x _ e=>?_),fun x _ hx=>?_⟩
 ·rcases e with e | e
  ·rw[e,nn.1];exact aCU.2
  ·rw[e,nn.2];exact uX.2
 ·have hK:Kp (fun x=>x=A.ra∨x=P) w ρ (w1.setCell ⟨P,0,none⟩ (.slice (some ⟨g,0,none⟩) rs.length (rs.length+rj.length))) (oB ρ g):=⟨k,fun x _ hx=>c9 x hx.1,fun x hx=>by
   by_cases e:x=g
   ·rw[e];have:=hg.lt;simpa using this
   ·have:ρ x≠0:=by unfold oB at hx;rw[if_neg e]at hx;exact hx
    exact lL (ap x this) k.size⟩
  have Km:IsC w1 P (dC A f jv) 71:=hR.hP.frm hF (fun e=>by have:=nn.1;rw[←e,nn.2]at this;omega);refine hR.gen (A':={A with ra:=g,rj:=rj}) (f':={f with roots:=rs}) hK (.inr ?_) (.inr ⟨hg.set_ne _ Qk,CY⟩) (.inl ⟨av hR.rm (by omega) (by omega),rfl⟩) rfl (.inl ⟨av hR.rc (by omega) (by omega),rfl⟩) rfl (.inl ⟨av hR.rd (by omega) (by omega),rfl,rfl⟩) (fun x d hx=>.inl ⟨hx,rfl,rfl,fun y hy=>?_⟩) hR.no lv hR.ds
  ·have:=Km.set 0 (.slice (some ⟨g,0,none⟩) rs.length (rs.length+rj.length))
   simpa [dC] using this
  ·rcases hy with e | e
   ·exact av e (by unfold cE;omega) (by unfold cE;omega)
   ·exact av e (by unfold cB;omega) (by unfold cB;omega)
 ·left
  rcases e with e | e
  ·rw[e,nn.1];omega
  ·rw[e,nn.2];omega
 ·unfold oB
  split
  ·rename_i e
   rcases oa with q | q
   ·rw[e,q]
   ·exact absurd ⟨e,by rw[e];exact q⟩ hx
  ·rfl
theorem St.setNum(h:St w ρ P A f J){i:Nat}{v:Int}{f':fZ}(hn:f'.roots=f.roots∧f'.cur=f.cur∧f'.com=f.com∧f'.nodes=f.nodes)(hc:∀jv,(dC A f jv).setIfInBounds i (.int .i64 v)=dC A f' jv):
  St (w.setCell ⟨P,i,none⟩ (.int .i64 v)) ρ P A f' J∧Mv (fun _=>False) w ρ (w.setCell ⟨P,i,none⟩ (.int .i64 v)) ρ:=by
 have Bu:ρ P=1:=by obtain⟨_,_,_,h1,_⟩:=h;exact h1.rP
 have k:Frm (fun x=>x=P) w (w.setCell ⟨P,i,none⟩ (.int .i64 v)):=Frm.set (S:=fun x=>x=P) w (p:=⟨P,i,none⟩) rfl _;refine⟨h.of k (fun x e=>by rw[e,Bu];exact uX.2) (fun _ _ _=>rfl) fun jv hR=>?_,k.wide (fun x _ e=>.inl (by rw[e,Bu];omega)),fun _ _ _=>rfl⟩;have no:∀{x r},ρ x=r→r≠1→¬x=P:=fun {x r} e hr q=>hr (by rw[←e,q,Bu]);obtain⟨n1,n2,n3,n4⟩:=hn;refine hR.gen (f':=f') (Kp.same hR k) (.inr ?_) (.inl ⟨no hR.rr (by omega),rfl,by rw[n1]⟩) (.inl ⟨no hR.rm (by omega),rfl⟩) rfl (.inl ⟨no hR.rc (by omega),n2⟩) rfl (.inl ⟨no hR.rd (by omega),rfl,by rw[n3]⟩) (fun x d hx=>.inl ⟨by rw[←n4];exact hx,rfl,rfl,fun y hy=>?_⟩) (fun b hb=>hR.no b (by rw[←n4];exact hb)) (by rw[n1];exact hR.rs) (by rw[n3];exact hR.ds)
 ·have:=hR.hP.set i (.int .i64 v)
  rw[hc]at this;exact this
 ·rcases hy with e | e
  ·exact no e (by unfold cE;omega)
  ·exact no e (by unfold cB;omega)
theorem aGC(W:World)(x y:Int):(Instr.build 77 #[(0,.int .i64 x),(1,.int .i64 y)]).run Tryz.prog W=.ok (.agg #[.int .i64 x,.int .i64 y]) W:=by kernel_rfl
theorem aMD(W:World)(x y:Int):(Instr.buildSlice 55 1 #[(0,.agg #[.int .i64 x,.int .i64 y])]).run Tryz.prog W=.ok (.slice (some ⟨W.heap.size,0,none⟩) 1 1) (W.alloc (.cells #[.int .i64 x,.int .i64 y] 77)):=by kernel_rfl
theorem aDN{W:World}{g:Nat}{rs rj:List (Int×Int)}(x y:Int)(G:Nat)(hg:IsC W g (cS (rs++rj)) 77)(hG:IsC W G (cS [(x,y)]) 77)(hl:rs.length≤100)(hm:rs.length+rj.length≤maxLen):
  ∃W' g' rj',(∀ty,(Builtin.append_ #[55,55] ty #[.slice (some ⟨g,0,none⟩) rs.length (rs.length+rj.length),.slice (some ⟨G,0,none⟩) 1 1]).run Tryz.prog W=.ok (.slice (some ⟨g',0,none⟩) (rs++[(x,y)]).length ((rs++[(x,y)]).length+rj'.length)) W')∧IsC W' g' (cS (rs++[(x,y)]++rj')) 77∧(g'=g∨W.heap.size≤g')∧(rs++[(x,y)]).length+rj'.length≤maxLen∧Frm (fun k=>k=g) W W':=by
 obtain⟨u,W',a',rj',h1,rfl,h3,h4,h5,h6⟩:=aFX (some g) rs rj [(x,y)] (.slice (some ⟨G,0,none⟩) 1 1) W (fun g' e=>by cases e;exact hg) (fun e=>by cases e) (.inr ⟨G,0,1,[(x,y)],rfl,hG,by simp,by simp⟩) (by simp;omega) hm;cases a' with
 | none=>have:=(h4 rfl).2.1;simp at this
 | some g'=>
  refine⟨W',g',rj',fun ty=>?_,(h3 g' rfl).1,?_,by simpa using h5,h6.wide fun k _ e=>by cases e;rfl⟩
  ·have:=h1 ty
   simpa [adr] using this
  ·rcases(h3 g' rfl).2 with e | e
   ·left;cases e;rfl
   ·exact .inr e
theorem aGF{K:Int}(w:World)(ρ:Nat→Nat)(P:Nat)(A:Adr)(f:fZ)(J:List aQ)(t:Nat)(h:St w ρ P A f J)(hI:IC f)(hz:Sz K f)(hK:K≤900000)(ht:t<f.roots.length)(jr:f.roots.length<16)(hn:0≤f.next∧f.next<65535):
  Calls Tryz.prog 103 #[.pointer (some ⟨P,0,none⟩),.int .i64 (aB f t)] w fun e w'=>e=.returned (.int .i64 f.next)∧∃ρ' A',St w' ρ' P A' (cU f t) J∧Mv (fun _=>False) w ρ w' ρ':=by
 have h0:0≤(f.roots.getD t (0,0)).2:=(hI.rb _ (aO ht)).1;obtain⟨d,hd⟩:=hI.root_live (aO ht);have d9:aB f t<f.cur.length:=hz.lt _ _ hd;have DN:((aB f t:Nat):Int) <(f.cur.length:Int):=by omega
 have ez:(f.roots.getD t (0,0)).2=((aB f t:Nat):Int):=by unfold aB;omega
 obtain⟨ja,jp,jj,hR,hJ⟩:=id h;have R3:IntKind.i64.wrap (f.next+1)=f.next+1:=IntWalk.i64_in _ ⟨by omega,by omega⟩;have sc:=hz.cb (aB f t);have YY:IntKind.i64.wrap (cu f (aB f t)+1)=cu f (aB f t)+1:=IntWalk.i64_in _ ⟨by omega,by omega⟩;have c1:w.cell? ⟨P,1,none⟩=some (.int .i64 f.next):=by rw[hR.hP.cell];rfl
 have z1:=hR.hP.frozen 1;obtain⟨br,DI⟩:=h.setNum (i:=1) (v:=f.next+1) (f':={f with next:=f.next+1}) ⟨rfl,rfl,rfl,rfl⟩ (fun jv=>by simp[dC]);obtain⟨w1,PK⟩:=exH (w.setCell ⟨P,1,none⟩ (.int .i64 (f.next+1)));rw[←PK.out]at br DI;obtain⟨ja1,jp1,jj1,iq,oy⟩:=id br;obtain⟨W2,Da⟩:=exH (w1.alloc (.cells #[.int .i64 f.next,.int .i64 (aB f t)] 77));obtain⟨G,HG⟩:=exH (w1.heap.size);have db:Bl w1 W2:=by rw[Da.out];exact(bQ w1.heap.size w1).alloc (nR _) _
 have Vb:IsC W2 G (cS [(f.next,((aB f t:Nat):Int))]) 77:=by rw[Da.out,HG.out];exact IsC.new _ _ _
 have ax:=br.below db;obtain⟨ja2,jp2,jj2,gi,nu⟩:=id ax;have ph:IsC W2 A.ra (cS (f.roots++A.rj)) 77:=gi.hr;obtain⟨W3,g3,rj3,q8,CT,Mh,Rq,bu⟩:=aDN f.next ((aB f t:Nat):Int) G ph Vb (by omega) hR.rs;have Qj:g3=A.ra∨ρ g3=0:=by
  rcases Mh with e | e
  ·exact .inl e
  ·right;exact Nat.eq_zero_of_not_pos fun q=>absurd (gi.own g3 (by omega)) (by omega)
 obtain⟨aw,Al⟩:=ax.setRoots bu CT Qj Rq;have r2:W2.cell? ⟨P,0,none⟩=some (.slice (some ⟨A.ra,0,none⟩) f.roots.length (f.roots.length+A.rj.length)):=by rw[gi.hP.cell];rfl
 have r1:w1.cell? ⟨P,0,none⟩=some (.slice (some ⟨A.ra,0,none⟩) f.roots.length (f.roots.length+A.rj.length)):=by rw[iq.hP.cell];rfl
 have Fi:IsC W3 P _ _:=gi.hP.frm bu (fun e=>by have:=gi.rr;have e2:=gi.rP;rw[e]at e2;have e3:ρ A.ra=2:=this;omega);have r3:W3.cell? ⟨P,0,none⟩=some (.slice (some ⟨A.ra,0,none⟩) f.roots.length (f.roots.length+A.rj.length)):=Fi.c rfl;have z3:=Fi.frozen 0;obtain⟨W4,GX⟩:=exH (W3.setCell ⟨P,0,none⟩ (.slice (some ⟨g3,0,none⟩) (f.roots++[(f.next,((aB f t:Nat):Int))]).length ((f.roots++[(f.next,((aB f t:Nat):Int))]).length+rj3.length)));rw[←GX.out]at aw Al;obtain⟨ja4,jp4,jj4,lj,CE⟩:=id aw;have m4:W4.cell? ⟨P,4,none⟩=some (.slice (some ⟨A.c,0,none⟩) f.cur.length f.cur.length):=by rw[lj.hP.cell];rfl
 have kz:W4.cell? ⟨A.c,aB f t,none⟩=some (.int .i64 (cu f (aB f t))):=lj.count d9;have z4:W4.frozen? ⟨A.c,aB f t,none⟩=false:=lj.hc.frozen _;obtain⟨cq,ng⟩:=aw.setC (b:=aB f t) d9 (cu f (aB f t)+1);have be:setC {{f with next:=f.next+1} with roots:=f.roots++[(f.next,((aB f t:Nat):Int))]} (aB f t) (cu f (aB f t)+1)=cU f t:=by
  unfold cU setC;rw[ez]
 have Ex:Mv (fun _=>False) w ρ (W4.setCell ⟨A.c,aB f t,none⟩ (.int .i64 (cu f (aB f t)+1))) (oB ρ g3):=by
  refine((((DI.trans (Mv.of_below db) (fun _ _ e=>e)).up (Y:=fun x=>x=g3∧ρ x=0) (fun _ _ e=>e.elim)).trans Al (fun _ _ e=>e)).trans ng (fun _ _ e=>e.elim)).up fun x hx e=>?_;obtain⟨e1,e2⟩:=e;rcases Mh with q | q
  ·rw[e1,q,hR.rr]at e2;omega
  ·have:=DI.frm.size;have:=db.size;omega
 have Gj:=aGC;have ll:=aMD;have HX:=aA (aI cq Ex);have HH:=aA (aI be q8);have QB:=q8;generalize GF:cu f (aB f t)=qc at *;generalize Hb:aB f t=qb at *;have e1:=PK.out.symm;have e2:=Da.out.symm;have e3:=HG.out.symm;have e4:=GX.out.symm;simp only[lP,List.length_cons,List.length_nil,Nat.zero_add]at e4;clear cq Ex be aw Al ax br DI ng q8 PK Da HG GX;go_enter Tryz.func103,Tryz.ntmps103;go_wp2_with (at_builtin;refine cG rfl _ _ _ _ rfl (.slice (some ⟨A.ra,0,none⟩) f.roots.length (f.roots.length+A.rj.length)) (.slice (some ⟨G,0,none⟩) 1 1) rfl rfl _ _ (QB _) ?_);go_ret;obtain⟨cq,Ex⟩:=HX.out;rw[HH.out.1]at cq;exact⟨rfl,_,⟨_,cq⟩,Ex⟩
