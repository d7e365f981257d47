import Derived.Test.YtaahkgkdpnnhhaaGreatHq10
set_option maxHeartbeats 9999999
set_option maxRecDepth 99999
set_option linter.all false
namespace Go.Proofs.YtaahkgkdpnnhhaaGreat
open Go.RowKit Fo
theorem lU{α β:Type}(R:Nat→α→β→Prop):∃m:α→β→Nat,(∀x y h,R h x y→R (m x y) x y)∧∀x y h,R h x y→m x y≤h:=by
 have key:∀x y,∃n,(∀h,R h x y→R n x y)∧∀h,R h x y→n≤h:=fun x y=>by
  by_cases e:∃h,R h x y
  ·obtain⟨h,hh⟩:=e
   induction h using Nat.strongRecOn with
   | ind h ih=>
    by_cases e:∃h',h'<h∧R h' x y
    ·obtain⟨h',h1,h2⟩:=e;exact ih h' h1 h2
    ·exact⟨h,fun _ _=>hh,fun h' hh'=>Nat.le_of_not_lt fun hl=>e ⟨h',hl,hh'⟩⟩
  ·exact⟨0,fun h hh=>absurd ⟨h,hh⟩ e,fun h hh=>absurd ⟨h,hh⟩ e⟩
 refine⟨fun x y=>(key x y).choose,fun x y h hh=>(key x y).choose_spec.1 h hh,fun x y h hh=>(key x y).choose_spec.2 h hh⟩
theorem aJL(W:World)(k:ByteArray):(Instr.build 110 #[(0,.string k)]).run Tryz.prog W=.ok (.agg #[.string k,.string .empty,.int .i64 0]) W:=by kernel_rfl
structure PuP(k:Nat)(L:Int)(w:World)(ρ:Nat→Nat)(P:Nat)(A:Adr)(f:fZ)(J:List aR)(r:Option (fZ×Bool))(e:Ending)(w':World):Prop where
 no:r=none→Pk k w ρ P f J e w'
 yes:∀g th,r=some (g,th)→∃ρ' A' J',e=.returned (.bool th)∧Dn k (fun _=>True) w ρ P A f J w' ρ' A' g J'∧Sz L g
structure PuR(w:World)(ρ:Nat→Nat)(P:Nat)(A:Adr)(f:fZ)(J:List aR)(K:Int)(t H:Nat)(key val:ByteArray)(r:Option (fZ×Bool))(h:Nat)(v:Value)(W:World):Prop where
 le:h≤H
 ex:∃q b ρ' A' f' J' Pt lo hi,v=.pointer (some ⟨q,0,none⟩)∧A'.φ b=some q∧Dn (14+13*(H-h)) (fun _=>True) w ρ P A f J W ρ' A' f' J'∧Sz (K+10+10*((H-h:Nat):Int)) f'∧(∃H',Wk f' t H'∧aN f' t H' Pt b h lo hi)∧loR lo key∧hiR hi key∧sz f'.nodes b<5∧Tch b J'∧putAt h f' b key val=r
theorem aKV{K:Int}(w:World)(ρ:Nat→Nat)(P:Nat)(A:Adr)(f:fZ)(J:List aR)(t H:Nat)(key val:ByteArray)(hSt0:St w ρ P A f J)(hW:Wk f t H)(hz:Sz K f)(hK1:1≤K)(hK:K+10*(H+3)≤700000)(hJl:J.length+13*(H+3)≤600000):
  Calls Tryz.prog 99 #[.pointer (some ⟨P,0,none⟩),.pointer (some ⟨A.ra,t*2+1,none⟩),.agg #[.string key,.string val]] w (PuP (13*(H+3)) (K+10*(H+3)) w ρ P A f J (put f t H key val)):=by
 have hbd:=aJL;have hbs:=qW;obtain⟨B,HB⟩:=exH (w.heap.size);obtain⟨w0,Hw0⟩:=exH (w.alloc (.cells #[.string key,.string val] 85));have hB0:Bl w w0:=by rw[Hw0.out];exact(bQ w.heap.size w).alloc (nR _) _
 have hbx:IsC w0 B #[.string key,.string val] 85:=by rw[Hw0.out,HB.out];exact IsC.new _ _ _
 have hSt:=hSt0.below hB0;have hρB:ρ B=0:=Nat.eq_zero_of_not_pos fun q=>by
  obtain⟨_,_,_,hR,_⟩:=id hSt0;have:=hR.own B (by omega);rw[HB.out]at this;omega
 have hback:∀k L e w',PuP k L w0 ρ P A f J (put f t H key val) e w'→PuP k L w ρ P A f J (put f t H key val) e w':=fun k L e w' hp=>by
  refine⟨fun q=>?_,fun g th q=>?_⟩
  ·obtain⟨h1,ρ',A',g,J',a,b,c⟩:=hp.no q
   exact⟨h1,ρ',A',g,J',a,(Mv.of_below hB0).trans b (fun _ _ e=>e),c⟩
  ·obtain⟨ρ',A',J',a,b,c⟩:=hp.yes g th q
   exact⟨ρ',A',J',a,⟨b.st,(Mv.of_below hB0).trans b.mv (fun _ _ e=>e),b.js,b.ad⟩,c⟩
 have HP:=aA hback;have hL:dQ f (.root t):=hW.tl;have hLa:gR A (.root t) ⟨A.ra,t*2+1,none⟩:=rfl;clear hback;go_enter Tryz.func99,Tryz.ntmps99;go_wp2_with fail;rw[←Hw0.out,←HB.out];refine(iE w0 ρ P A f J (.root t) ⟨A.ra,t*2+1,none⟩ hSt hW.ic hz hK1 (by omega) (by omega) hL hLa (fun b i e=>by cases e)).mono ?_;intro e w3 hT;cases hsh:shadow f (.root t)with
 | none=>
  obtain⟨rfl,ρ3,A3,g3,J3,a1,a2,a3⟩:=hT.no hsh;have hno:put f t H key val=none:=by simp only[put,hsh]
  exact⟨rfl,HP.out _ _ _ _ ⟨fun _=>⟨rfl,ρ3,A3,g3,J3,a1,a2,a3.up (by omega)⟩,fun g c hgc=>by rw[hno]at hgc;cases hgc⟩⟩
 | some gc=>
  obtain⟨g1,r⟩:=gc;obtain⟨ρ3,A3,J3,q3,rfl,hφ3,hDn,hTc,hz3⟩:=hT.yes g1 r hsh;obtain⟨w1,p1,a1,a2,a3,a4,-,a6⟩:=hW.shadow_root hsh;obtain⟨⟨kc,ces⟩,hd⟩:=w1.ic.live (x:=r) (by rw[a3];omega);have hcl:ces.length≤5:=by
   obtain⟨d',d1,_,d2,_⟩:=((p1.ok w1.ok).1).sz_pos;rw[hd]at d1;cases d1;exact d2
  obtain⟨q3',junk3,e1,hρ3,hρa3,hN3⟩:=hDn.st.getNode hd;rw[hφ3]at e1;cases e1;have hra:A3.ra=A.ra:=hDn.ad.ra;have HD:Hid (put f t H key val=if ces.length=5 then match bM g1 t r with
   | none=>none
   | some (k,top)=>putAt (H+1) k top key val
   else putAt H g1 r key val):=by
   show put f t H key val=_
   unfold put;rw[hsh];simp only[aE hd];rfl
  obtain⟨m,hm1,hm2⟩:=lU (PuR w0 ρ P A f J K t (H+1) key val (put f t H key val));have HM1:=aA hm1;have HM2:=aA hm2;have HX:=aA (aI hK hJl);clear hm1 hm2 hK hJl;by_cases hf5:ces.length=5
  case' pos=>
   have hdf:decide (ces.length=5)=true:=by simpa using hf5
   have H5:=aA hf5;clear hf5 hT hcl;go_wp2_with fail;refine(oJ q3 (kc,ces) _ junk3 _ hN3).mono ?_;rintro e w4 ⟨rfl,hw4⟩;rw[hw4];clear hw4 w4;go_wp2_with fail;rw[←hra];refine(yJ (K:=K+10) w3 ρ3 P A3 g1 J3 t r kc ces hDn.st w1.ic hz3 (by omega) (by have:=HX.out;omega) (by have:=hDn.js.len;have:=HX.out;omega) w1.tl a1 hd H5.out hTc).mono ?_;intro e w4 hG;rcases hgr:bM g1 t r with _ | ⟨g2,top⟩
   ·have hno:put f t H key val=none:=by rw[HD.out,if_pos H5.out,hgr]
    obtain⟨rfl,ρ4,A4,g4,J4,b1,b2,b3⟩:=hG.no hgr;exact⟨rfl,HP.out _ _ _ _ ⟨fun _=>⟨rfl,ρ4,A4,g4,J4,b1,hDn.mv.trans b2 (fun _ _ e=>e),(hDn.js.trans b3).up (by omega)⟩,fun g c hgc=>by rw[hno]at hgc;cases hgc⟩⟩
   obtain⟨ρ4,A4,J4,q4,rfl,hφ4,hDn4,hTc4,hz4⟩:=hG.yes g2 top hgr;have hPR:∃h0,PuR w0 ρ P A f J K t (H+1) key val (put f t H key val) h0 (.pointer (some ⟨q4,0,none⟩)) w4:=by
    have hgr':=hgr;unfold bM at hgr;rw[aE hd]at hgr;simp only at hgr;by_cases hl0:aF g1=0
    ·rw[if_pos hl0]at hgr;cases hgr
    ·rw[if_neg hl0]at hgr
     generalize hT:aF (takeAt (setN g1 r (kc,ces.take 3)) (aF g1) (kc,ces.drop 3))=tp at *;by_cases hl1:tp=0
     ·rw[if_pos hl1]at hgr;cases hgr
     ·rw[if_neg hl1]at hgr
      simp only[sJ,Prod.mk.injEq]at hgr;obtain⟨e1,rfl⟩:=hgr;obtain⟨l1,l2,l3,l4⟩:=aQ hl0;obtain⟨m1,m2,m3,m4⟩:=aQ (hT▸hl1);rw[hT]at m1 m2 m3;have hcu:∀x,cu (takeAt (setN g1 r (kc,ces.take 3)) (aF g1) (kc,ces.drop 3)) x=if aF g1=x then 1 else cu g1 x:=fun x=>dT (f:=setN g1 r (kc,ces.take 3)) (kc,ces.drop 3) l2 x;rw[hcu]at m3;have htq:tp≠aF g1:=fun e=>by rw[if_pos e.symm]at m3;omega
      rw[if_neg (Ne.symm htq)]at m3;have m2':tp<g1.cur.length:=by simpa [takeAt,setN] using m2
      have h5:=H5.out;rw[←a1]at a3 hd e1;obtain⟨w2,p2,b1,b2,b3⟩:=w1.grow a3 hd (m:=3) (by omega) (by omega) l1 l2 l3 m1 m2' m3 htq;rw[e1]at w2 p2 b3;refine⟨H+1,nR _,q4,tp,ρ4,A4,g2,J4,_,_,_,rfl,hφ4,⟨hDn4.st,hDn.mv.trans hDn4.mv (fun _ _ e=>e),(hDn.js.trans hDn4.js).up (by omega),(hDn.ad.trans hDn4.ad).up fun _ _=>trivial⟩,hz4.up (by omega),⟨_,w2,p2⟩,trivial,trivial,by unfold sz;rw[b3];simp,hTc4,?_⟩;rw[HD.out,if_pos H5.out,hgr']
   clear hDn hDn4 hG hgr hN3 hd;go_wp2
  case' neg=>
   have hdf:decide (ces.length=5)=false:=by simpa using hf5
   have H5:=aA hf5;have HCL:=aA hcl;clear hf5 hT hcl;go_wp2_with fail;refine(oJ q3 (kc,ces) _ junk3 _ hN3).mono ?_;rintro e w4 ⟨rfl,hw4⟩;rw[hw4];clear hw4 w4;have hPR:∃h0,PuR w0 ρ P A f J K t (H+1) key val (put f t H key val) h0 (.pointer (some ⟨q3,0,none⟩)) w3:=by
    refine⟨H,Nat.le_succ _,q3,r,ρ3,A3,g1,J3,_,_,_,rfl,hφ3,⟨hDn.st,hDn.mv,hDn.js.up (by omega),hDn.ad.top⟩,hz3.up (by omega),⟨_,w1,p1⟩,trivial,trivial,?_,hTc,?_⟩
    ·unfold sz;rw[hd];have:=H5.out;have:=HCL.out;simp only;omega
    ·rw[HD.out,if_neg H5.out]
   clear hDn hN3 hd;go_wp2
  all_goals (
   clear HD H5 hra;have hri:=hPR;clear hPR;go_loopw [7] (fun v wr=>∃h,PuR w0 ρ P A f J K t (H+1) key val (put f t H key val) h v wr) (fun v wr=>m v wr)
   case atStart=>exact hri
   case round=>
    obtain⟨h',hR'⟩:=hrel;have hR:=HM1.out _ _ _ hR';clear hR' hri;obtain⟨h,Hh⟩:=exH (m u7 wr);rw[←Hh.out]at hR;obtain⟨hle,q,b,ρ4,A4,f4,J4,Pt,lo,hi,rfl,hφ4,hDn,hz4,⟨H',w4,p4⟩,hlo,hhi,h5,hTb,hput⟩:=hR;have hbx4:IsC wr B #[.string key,.string val] 85:=hbx.frm hDn.mv.frm (fun e=>by rcases e with e | e;exact e hρB;exact e);have hHle:=aA hle;clear hle;cases h with
    | succ h=>
     obtain⟨es,hes,hnr,hne⟩:=p4.inner w4;obtain⟨q',junk,e1,hρq,hρa,hN⟩:=hDn.st.getNode hes;rw[hφ4]at e1;cases e1;have c0:wr.cell? ⟨q,0,none⟩=some (.int .i64 2):=by rw[hN.box.cell];rfl
     have ck:wr.cell? ⟨B,0,none⟩=some (.string key):=hbx4.c rfl;go_wp2_with fail;refine(zU (K:=K+10+10*((H+1 -(h+1):Nat):Int)) wr ρ4 P A4 f4 J4 t H' Pt b h lo hi key q hDn.st w4 p4 hlo h5 hφ4 hz4 (by omega) (by have:=HX.out;have:=hHle.out;omega) (by have:=HX.out;have:=hDn.js.len;have:=hHle.out;omega) hTb).mono ?_;intro e w5 hS;cases hsd:stepDown f4 b key with
     | none=>
      obtain⟨rfl,ρ5,A5,g5,J5,b1,b2,b3⟩:=hS.no hsd;have hno:put f t H key val=none:=by rw[←hput];unfold putAt;rw[hsd]
      exact⟨rfl,HP.out _ _ _ _ ⟨fun _=>⟨rfl,ρ5,A5,g5,J5,b1,hDn.mv.trans b2 (fun _ _ e=>e),(hDn.js.trans b3).up (by have:=hHle.out;omega)⟩,fun g c hgc=>by rw[hno]at hgc;cases hgc⟩⟩
     | some gc=>
      obtain⟨g5,c5⟩:=gc;obtain⟨ρ5,A5,J5,q5,rfl,hφ5,hDn5,hT5,hz5⟩:=hS.yes g5 c5 hsd;obtain⟨P',lo',hi',w6,p6,l1,l2,l3,-,-⟩:=w4.stepDown p4 hlo hhi h5 hsd;have hnew:PuR w0 ρ P A f J K t (H+1) key val (put f t H key val) h (.pointer (some ⟨q5,0,none⟩)) w5:=by
       refine⟨by have:=hHle.out;omega,q5,c5,ρ5,A5,g5,J5,P',lo',hi',rfl,hφ5,⟨hDn5.st,hDn.mv.trans hDn5.mv (fun _ _ e=>e),(hDn.js.trans hDn5.js).up (by have:=hHle.out;omega),(hDn.ad.trans hDn5.ad).up fun _ _=>trivial⟩,hz5.up (by have:=hHle.out;omega),⟨_,w6,p6⟩,l1,l2,l3,hT5,?_⟩;rw[←hput];conv=>rhs;unfold putAt;rw[hsd]
      clear hS hDn5 hDn;go_wp2;go_roundw
      case rel=>exact⟨h,hnew⟩
      case measure=>
       have h1:=HM2.out _ _ _ hnew;have h2:=Hh.out;exact Nat.lt_of_le_of_lt h1 (by show h<m _ _;rw[←h2];exact Nat.lt_succ_self h)
    | zero=>
     obtain⟨es,hes,hnr,hcz⟩:=p4.leaf w4;obtain⟨q',junk,e1,hρq,hρa,hN⟩:=hDn.st.getNode hes;rw[hφ4]at e1;cases e1;have hz5:es.length<5:=by unfold sz at h5;rw[hes]at h5;exact h5
     have hput':put f t H key val=some (setN f4 b (1,putE es key val),fG es key):=by rw[←hput];unfold putAt;rw[aE hes]
     obtain⟨a,ha⟩:∃a,a=A4.α b:=⟨_,rfl⟩;rw[←ha]at hN;have c0:wr.cell? ⟨q,0,none⟩=some (.int .i64 1):=by rw[hN.box.cell];rfl
     have c1:wr.cell? ⟨q,1,none⟩=some (.slice (adr a) es.length (es.length+junk.length)):=by rw[hN.box.cell];rfl
     have ck:wr.cell? ⟨B,0,none⟩=some (.string key):=hbx4.c rfl;have hNr:NRd wr.drew (.slice (adr a) es.length (es.length+junk.length)) es:=hN.esl.nrd;have hql:=hN.box.lt;have hBl:=hbx4.lt;have HPU:=aA hput';have HA:=aA ha;clear hput hput' ha;go_wp2;go_region_held3 (fun w'=>w'.cell? ⟨q,1,none⟩=some (.slice (adr a) es.length (es.length+junk.length))∧w'.cell? ⟨B,0,none⟩=some (.string key)) (first | go_keep | exact⟨c1,ck⟩ | exact⟨(hB.cell (p:=⟨q,1,none⟩) hql).trans c1,(hB.cell (p:=⟨B,0,none⟩) hBl).trans ck⟩) ((go_at_call 119;refine(gS _ es key _ hNr (by omega) hnr.srt).mono ?_;rintro e w5 ⟨hB0,he⟩;have he':e=.returned (.tuple #[.int .i64 (cLt es key),.bool (fG es key)]):=he;subst he';have hB:Bl wr w5:=(bQ wr.heap.size wr).drew.trans hB0));have hS5:=hDn.st.below hB;have hM5:Mv (fun _=>False) w0 ρ w5 ρ4:=hDn.mv.trans (Mv.of_below hB) (fun _ _ e=>e);have hN5:=hN.below hB;have hbx5:IsC w5 B #[.string key,.string val] 85:=hbx4.of (hB.block B hBl);have hcl:=kU es key;obtain⟨i,HI⟩:=exH (cLt es key);rw[←HI.out]at hcl ⊢;have hJ9:=hDn.js;have hA9:=hDn.ad;clear hDn hN c0 c1 ck hNr hbx4 hB;by_cases hk:fG es key=true
     case' pos=>
      have hpack:∃ρ9 A9 f9 es5,St w5 ρ9 P A9 f9 J4∧Mv (fun _=>False) w0 ρ w5 ρ9∧AdS (fun _=>True) A A9∧JS (14+13*(H+1-0)) f J f9 J4∧Sz (K+10+10*((H+1-0:Nat):Int)) f9∧f9.nodes b=some (1,es5)∧A9.φ b=some q∧i<es5.length∧es5.length≤5∧setN f9 b (1,es5.set i ((es5.getD i e0).1,val,(es5.getD i e0).2.2))=setN f4 b (1,putE es key val)∧IsC w5 B #[.string key,.string val] 85:=by
       obtain⟨k1,k2⟩:=(dF es key).1 hk;refine⟨ρ4,A4,f4,es,hS5,hM5,hA9,hJ9,hz4,hes,hφ4,by rw[HI.out];exact k1,by omega,?_,hbx5⟩;unfold putE;rw[if_pos hk,HI.out]
      rw[hk];rw[hk]at HPU;clear hk;generalize hw9:w5=w9 at *;go_wp2
     case' neg=>
      have hkf:fG es key=false:=by simpa using hk
      rw[hkf];have hq0:(adr a,es.length,w5.drew.cell? ⟨q,1,none⟩)=(adr a,es.length,some (.slice (adr a) es.length (es.length+junk.length))):=by
       have:w5.drew.cell? ⟨q,1,none⟩=some (.slice (adr a) es.length (es.length+junk.length)):=by
        show w5.cell? _=_
        rw[hN5.box.cell];rfl
       rw[this]
      have hq1:w5.drew.cell? ⟨q,1,none⟩=some (.slice (adr a) es.length (es.length+junk.length))∧w5.drew.cell? ⟨B,0,none⟩=some (.string key):=by
       refine⟨by show w5.cell? _=_;rw[hN5.box.cell];rfl,by show w5.cell? _=_;rw[hbx5.cell];rfl⟩
      clear hq0;have hq0:=hq1;clear hq1;go_wp2;refine aZ (fun W=>W.cell? ⟨q,1,none⟩=some (.slice (adr a) es.length (es.length+junk.length))∧W.cell? ⟨B,0,none⟩=some (.string key)) 13 (by kernel_rfl) ?_;refine tJ 0 40 (.pointer (some ⟨q,0,none⟩)) rfl hq0 ?_;simp only[Act.put,sB,sZ,sS];refine tJ 1 41 (.pointer (some ⟨q,0,none⟩)) rfl hq0 ?_;simp only[Act.put,sB,sZ,sS];refine tJ 2 42 (.pointer (some ⟨q,0,none⟩)) rfl hq0 ?_;simp only[Act.put,sB,sZ,sS];refine tJ 3 43 (.pointer (some ⟨q,1,none⟩)) rfl hq0 ?_;simp only[Act.put,sB,sZ,sS];refine tJ 4 44 (.slice (adr a) es.length (es.length+junk.length)) rfl hq0 ?_;simp only[Act.put,sB,sZ,sS];refine tJ 5 45 (.int .i64 i) rfl hq0 ?_;simp only[Act.put,sB,sZ,sS];refine tJ 6 46 (.pointer (some ⟨B,0,none⟩)) rfl hq0 ?_;simp only[Act.put,sB,sZ,sS];refine tJ 7 47 (.string key) rfl hq0 ?_;simp only[Act.put,sB,sZ,sS];refine tJ 8 48 (.agg #[.string key,.string .empty,.int .i64 0]) rfl hq0 ?_;simp only[Act.put,sB,sZ,sS];refine oE 9 rfl fun K2 hK2=>?_;go_simp;obtain⟨G6,HG6⟩:=exH (w5.heap.size);obtain⟨W6,HW6⟩:=exH ((w5.alloc (.cells #[.string key,.string .empty,.int .i64 0] 110)).drew);rw[←HW6.out,←HG6.out];have hN6:IsC W6 G6 (bX [(key,.empty,(0:Int))]) 110:=by rw[HW6.out,HG6.out];exact(IsC.new w5 _ _).drew
      have hB6:Bl w5 W6:=by rw[HW6.out];exact((bQ w5.heap.size w5).alloc (nR _) _).drew
      have hG6:∀g,a=some g→g≠G6:=fun g e=>by rw[HG6.out];exact Nat.ne_of_lt (hN5.arr g e).1.lt
      have hNb6:=hN5.below hB6;have hbx6:IsC W6 B #[.string key,.string val] 85:=hbx5.of (hB6.block B hbx5.lt);have hq6:W6.cell? ⟨q,1,none⟩=some (.slice (adr a) es.length (es.length+junk.length))∧W6.cell? ⟨B,0,none⟩=some (.string key):=⟨by rw[hNb6.box.cell];rfl,hbx6.c rfl⟩;refine hK2 _ _ (fun _=>hq6) ?_;clear hK2 K2 hq0;have hS6:=hS5.below hB6;refine oE 10 rfl fun K2 hK2=>?_;go_simp;refine(jT a es junk [(key,.empty,(0:Int))] (some ⟨G6,0,none⟩) 1 i W6 (fun x e=>(hNb6.arr x e).1) hNb6.nil (.inr ⟨G6,0,1,[(key,.empty,(0:Int))],rfl,hN6,by simp,by simp⟩) (fun gv o n c e e'=>by cases e;exact hG6 _ e' rfl) hcl (by simp) (by simp;omega) hNb6.small).mono ?_;rintro e w7 ⟨u,rfl,hIns⟩;obtain⟨ua,un,uc,rfl⟩:∃ua un uc,u=.slice ua un uc:=by obtain⟨⟨a',j',e,_⟩,_⟩:=hIns;exact⟨_,_,_,e⟩
      have hBq:B≠q:=fun e=>by
       have h1:=hbx6;rw[e]at h1;exact IsC.ne h1 hNb6.box (by decide) rfl
      have hBa:∀g,a=some g→B≠g:=fun g e e'=>by
       have h1:=hbx6;rw[e']at h1;exact IsC.ne h1 (hNb6.arr g e).1 (by decide) rfl
      have hbx7:IsC w7 B #[.string key,.string val] 85:=hbx6.frm hIns.frm (fun e=>hBa B e rfl);have hq7:w7.cell? ⟨q,1,none⟩=some (.slice (adr a) es.length (es.length+junk.length))∧w7.cell? ⟨B,0,none⟩=some (.string key):=⟨(dA (hIns.frm.block q hNb6.box.lt (fun e=>(hNb6.arr q e).2 rfl)) 1).trans hq6.1,hbx7.c rfl⟩;obtain⟨a',-,hS8,hM8,-,hfz8⟩:=hS6.ins (w1:=w7) (u:=.slice ua un uc) hes hφ4 (by rw[←HA.out];exact hIns);have hls:es.take i++[(key,.empty,(0:Int))]++es.drop i=insE es i (key,.empty,(0:Int)):=by simp[insE]
      rw[hls]at hS8;have hbl:b<f4.cur.length:=hz4.lt b _ hes;have hpack:∃ρ9 A9 f9 es5,St (w7.setCell ⟨q,1,none⟩ (.slice ua un uc)) ρ9 P A9 f9 J4∧Mv (fun _=>False) w0 ρ (w7.setCell ⟨q,1,none⟩ (.slice ua un uc)) ρ9∧AdS (fun _=>True) A A9∧JS (14+13*(H+1-0)) f J f9 J4∧Sz (K+10+10*((H+1-0:Nat):Int)) f9∧f9.nodes b=some (1,es5)∧A9.φ b=some q∧i<es5.length∧es5.length≤5∧setN f9 b (1,es5.set i ((es5.getD i e0).1,val,(es5.getD i e0).2.2))=setN f4 b (1,putE es key val)∧IsC (w7.setCell ⟨q,1,none⟩ (.slice ua un uc)) B #[.string key,.string val] 85:=by
       have hil:(insE es i (key,.empty,(0:Int))).length=es.length+1:=by simp only[insE,lP,List.length_take,List.length_cons,List.length_drop];omega
       refine⟨_,_,_,insE es i (key,.empty,(0:Int)),hS8,(hM5.trans (Mv.of_below hB6) (fun _ _ e=>e)).trans hM8 (fun _ _ e=>e),(hA9.trans (AdS.arr A4 b a')).up fun _ _=>trivial,hJ9.trans (JS.setN _ hTb),hz4.setN hbl (by simp only;omega),aD _ _ _,hφ4,by omega,by omega,?_,hbx7.set_ne _ hBq⟩;have e9:(insE es i (key,.empty,(0:Int))).getD i e0=(key,.empty,(0:Int)):=by
        rw[jI _ _ _ _ hcl,if_neg (by omega),if_pos rfl]
       rw[e9];have e10:(insE es i (key,.empty,(0:Int))).set i (key,val,0)=insE es i (key,val,0):=by
        unfold insE;rw[List.set_append_right _ _ (by simp;omega),List.length_take,show i-min i es.length=0 by omega];rfl
       simp only
       rw[e10];unfold putE;rw[if_neg hk,HI.out];unfold setN;simp only;congr 1;funext x;by_cases ex:x=b<;>simp[upd,ex]
      refine hK2 _ _ (fun _=>hq7) ?_;clear hK2 K2 hq6 hS8 hM8 hS6 hIns hNb6 hN6 hbx6;refine oE 11 rfl fun K2 hK2=>?_;go_simp;refine hK2 _ _ (fun _=>hq7) ?_;clear hK2 K2;refine oE 12 rfl fun K2 hK2=>?_;go_simp;refine hK2 _ _ (fun _=>hq7) ?_;clear hK2 K2;obtain⟨hq7a,-⟩:=hq7;refine oE 13 rfl fun K2 hK2=>?_;go_simp;refine hK2 _ _ (fun q=>absurd rfl q) ?_;clear hK2 K2;refine aV (by kernel_rfl) ?_ _;clear hq7a hbx7 hfz8;rw[hkf]at HPU;clear hk hkf;generalize hw9:w7.setCell ⟨q,1,none⟩ (.slice ua un uc)=w9 at *;go_wp2
     all_goals (
      obtain⟨ρ9,A9,f9,es5,hS9,hM9,hAd9,hJs9,hz9,hb9,hφ9,hi9,hl9,hfin,hbx9⟩:=hpack;clear hS5 hM5 hN5 hbx5 hw9;obtain⟨q',junk5,e1,hρq9,hρa9,hN9⟩:=hS9.getNode hb9;rw[hφ9]at e1;cases e1;obtain⟨g5,hg5⟩:=hN9.arrOf (by simp only;omega);rw[hg5]at hN9;have hNs:=hN9.setc (i:=i) (j:=1) (v:=.string val) (e':=((es5.getD i e0).1,val,(es5.getD i e0).2.2)) hi9 (by omega) (by simp[aJ]);obtain⟨hSf,hMf⟩:=hS9.nodeSame (w':=w9.setCell ⟨g5,i*3+1,none⟩ (.string val)) hb9 hφ9 (Frm.set w9 (p:=⟨g5,i*3+1,none⟩) (.inr hg5) _) (by rw[hg5];exact hNs);rw[hfin]at hSf;have hbl9:b<f9.cur.length:=hz9.lt b _ hb9;have hzf:Sz (K+10*(H+3)) (setN f4 b (1,putE es key val)):=by rw[←hfin];exact(hz9.up (by omega)).setN hbl9 (by simp only[List.length_set];omega)
      have hJf:JS (13*(H+3)) f J (setN f4 b (1,putE es key val)) J4:=by rw[←hfin];exact(hJs9.trans (JS.setN _ hTb)).up (by omega)
      have HF:=aA (show Dn (13*(H+3)) (fun _=>True) w0 ρ P A f J (w9.setCell ⟨g5,i*3+1,none⟩ (.string val)) ρ9 A9 (setN f4 b (1,putE es key val)) J4∧Sz (K+10*(H+3)) (setN f4 b (1,putE es key val))from⟨⟨hSf,hM9.trans hMf (fun _ _ e=>e),hJf,hAd9⟩,hzf⟩);have hq9:w9.drew.cell? ⟨q,1,none⟩=some (.slice (some ⟨g5,0,none⟩) es5.length (es5.length+junk5.length))∧w9.drew.cell? ⟨B,1,none⟩=some (.string val):=⟨by show w9.cell? _=_;rw[hN9.box.cell];rfl,by show w9.cell? _=_;rw[hbx9.cell];rfl⟩;have hii:((i:Nat):Int) <(es5.length:Int):=by omega
      obtain⟨hce,hfe⟩:(∃v,w9.cell? ⟨g5,i*3+1,none⟩=some v)∧w9.frozen? ⟨g5,i*3+1,none⟩=false:=⟨⟨_,(bH (hN9.arr g5 rfl).1 (i:=i) (by simp;omega)).2.1⟩,(hN9.arr g5 rfl).1.frozen _⟩;obtain⟨ve,hce⟩:=hce;clear hSf hMf hzf hJf hfin hNs hS9 hM9 hN9 hbx9 hJs9 hz9;refine aZ (fun W=>W.cell? ⟨q,1,none⟩=some (.slice (some ⟨g5,0,none⟩) es5.length (es5.length+junk5.length))∧W.cell? ⟨B,1,none⟩=some (.string val)) 9 (by kernel_rfl) ?_;refine tJ 0 53 (.pointer (some ⟨q,0,none⟩)) rfl hq9 ?_;simp only[Act.put,sB,sZ,sS];refine tJ 1 54 (.pointer (some ⟨q,0,none⟩)) rfl hq9 ?_;simp only[Act.put,sB,sZ,sS];refine tJ 2 55 (.pointer (some ⟨q,1,none⟩)) rfl hq9 ?_;simp only[Act.put,sB,sZ,sS];refine tJ 3 56 (.slice (some ⟨g5,0,none⟩) es5.length (es5.length+junk5.length)) rfl hq9 ?_;simp only[Act.put,sB,sZ,sS];refine tJ 4 57 (.int .i64 i) rfl hq9 ?_;simp only[Act.put,sB,sZ,sS];refine tJ 5 58 (.pointer (some ⟨B,1,none⟩)) rfl hq9 ?_;simp only[Act.put,sB,sZ,sS];refine tJ 6 59 (.string val) rfl hq9 ?_;simp only[Act.put,sB,sZ,sS];refine oE 7 rfl fun K2 hK2=>?_;go_simp;refine hK2 _ _ (fun _=>hq9) ?_;clear hK2 K2;refine oE 8 rfl fun K2 hK2=>?_;go_simp;refine hK2 _ _ (fun _=>hq9) ?_;clear hK2 K2;refine oE 9 rfl fun K2 hK2=>?_;go_simp;refine hK2 _ _ (fun q=>absurd rfl q) ?_;clear hK2 K2;refine aV (by kernel_rfl) ?_ _;go_wp2;go_ret;obtain⟨hDf,hzf⟩:=HF.out;refine HP.out _ _ _ _ ⟨fun q=>(by rw[HPU.out]at q;cases q),fun g th hgt=>?_⟩;rw[HPU.out]at hgt;cases hgt;exact⟨ρ9,A9,J4,rfl,hDf.below (by first | exact bQ _ _ | exact(bQ _ _).drew),hzf⟩))
