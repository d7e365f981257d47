import Derived.Test.YtaahkgkdpnnhhaaGreatHq44
set_option maxHeartbeats 9999999
set_option maxRecDepth 99999
set_option linter.all false
namespace Go.Proofs.YtaahkgkdpnnhhaaGreat
open Go.RowKit Go.Shelf Fo
def trC(n:Int)(ops:List TO):Int:=if inB n 8 512=false then 1 else if 2000<ops.length then 4 else 0
def trF(n:Int)(ops:List TO):fZ:=jL (aH n.toNat) ops
def trA(n:Int)(ops:List TO):List An:=if trC n ops=0 then iS (aH n.toNat) ops else []
theorem lW(n:Int)(ops:List TO):(trC n ops=1∧inB n 8 512=false)∨(trC n ops=4∧inB n 8 512=true∧2000<ops.length)∨(trC n ops=0∧inB n 8 512=true∧ops.length≤2000):=by
 unfold trC;cases h:inB n 8 512 with
 | false=>exact .inl ⟨by simp,rfl⟩
 | true=>
  by_cases h2:2000<ops.length
  ·exact .inr (.inl ⟨by simp[h2],rfl,h2⟩)
  ·exact .inr (.inr ⟨by simp[h2],rfl,by omega⟩)
theorem RuP.all{w:World}{n:Int}{ops:List TO}{e:Ending}{w':World}(h:RuP w n ops e w'):∃X u,e=.returned (.tuple #[.agg X,u,.int .i64 (trC n ops)])∧X.size=7∧X.all (·.oneCell')=true∧yA.Own w.heap.size w' u (trA n ops)∧Bl w w'∧(trC n ops=0→∃A,X=aL A (trF n ops)∧SpV w' A (trF n ops)∧∃a k c,A.tv=.slice a k c):=by
 rcases lW n ops with⟨e1,h1⟩ | ⟨e1,h1,h2⟩ | ⟨e1,h1,h2⟩
 ·refine⟨z7,.slice none 0 0,by rw[e1];exact h.dev h1,rfl,by simp[z7,Value.oneCell'],?_,h.bel,fun q=>absurd (e1.symm.trans q) (by omega)⟩
  unfold trA;rw[if_neg (by omega)];exact Ely.Own.nil _ _
 ·refine⟨z7,.slice none 0 0,by rw[e1];exact h.lim h1 h2,rfl,by simp[z7,Value.oneCell'],?_,h.bel,fun q=>absurd (e1.symm.trans q) (by omega)⟩
  unfold trA;rw[if_neg (by omega)];exact Ely.Own.nil _ _
 ·obtain⟨A,u,he,hV,ht,ho⟩:=h.ok h1 h2
  refine⟨_,u,by rw[e1];exact he,cU _ _,dO hV ht,?_,h.bel,fun _=>⟨A,rfl,hV,ht⟩⟩;unfold trA;rw[if_pos e1];exact ho
theorem aBK{n:Int}{ops:List TO}(h:trC n ops=0):aCJ (aH n.toNat) (trF n ops):=by
 rcases lW n ops with⟨e1,h1⟩ | ⟨e1,h1,h2⟩ | ⟨e1,h1,h2⟩
 ·omega
 ·omega
 ·have hnn:8≤n∧n≤512:=by unfold inB at h1;simpa using h1
  exact tY (Inv.fresh (n:=n.toNat) (by omega) (by omega)) (uA _) ops
theorem qJ(n:Int)(ops:List TO)(v:Value)(w:World)(hv:yO.Sl w v ops)(hl:ops.length≤1048576):Calls Tryz.prog 26 #[.int .i64 n,v] w fun e w'=>∃u,e=.returned (.tuple #[u,.int .i64 (trC n ops)])∧yA.Own w.heap.size w' u (trA n ops)∧Bl w w':=by
 obtain⟨c,hc⟩:=eZ (trC n ops);have HR:=aA (vN n ops v w hv hl);have HAL:=aA (fun e w' (h:RuP w n ops e w')=>h.all);rw[hc]at HAL;rw[hc];clear hv hc;go_enter Tryz.func26,Tryz.ntmps26;go_upto_region 1 with fail
 refine wp_region_list ?_;refine wpList_plain rfl (fun K2 hK2=>?_);go_simp;refine hK2 _ _ ?_;clear hK2 K2;refine wpList_plain rfl (fun K2 hK2=>?_);go_simp;refine hK2 _ _ ?_;clear hK2 K2;refine wpList_plain rfl (fun K2 hK2=>?_);go_simp;refine HR.out.mono ?_;intro e w1 hP;obtain⟨X,u,rfl,hX7,hX1,hO,hb1,_⟩:=HAL.out e w1 hP;refine hK2 _ _ ?_;clear hK2 K2 hP HAL HR;obtain⟨B6,hB6⟩:=eZ (w1.heap.size);obtain⟨w2,hw2⟩:=eZ (w1.alloc (.cells #[.int .i64 0,.slice none 0 0,.slice none 0 0,.int .i64 0,.int .i64 0,.slice none 0 0,.slice none 0 0] 57));have hb2:=bAl hw2;have i6:=iNw hw2 hB6;refine wpList_plain rfl (fun K2 hK2=>?_);go_simp;refine hK2 _ _ ?_;clear hK2 K2;refine wpList_plain rfl (fun K2 hK2=>?_);go_simp;refine hK2 _ _ ?_;clear hK2 K2;refine wpList_plain rfl (fun K2 hK2=>?_);go_simp;refine hK2 _ _ ?_;clear hK2 K2;refine wpList_plain rfl (fun K2 hK2=>?_);go_simp;refine hK2 _ _ ?_;clear hK2 K2;refine wpList_plain rfl (fun K2 hK2=>?_);go_simp;refine hK2 _ _ ?_;clear hK2 K2;refine wpList_plain rfl (fun K2 hK2=>?_);refine aK _ _ _ rfl B6 i6 rfl rfl hX7 (by rw[hX7];kernel_rfl) hX1 fun w3 j6 jF=>?_;refine hK2 _ _ ?_;clear hK2 K2;have hb13:Bl w1 w3:=hb2.trans (jF.below hb2.size fun k e=>by omega);have HO:=aA (hO.below hb13);have HB:=aA (hb1.trans (hb13.mono hb1.size));clear hO jF j6 i6 hb2 hb13 hw2;refine wpList_plain rfl (fun K2 hK2=>?_);go_simp;refine hK2 _ _ ?_;clear hK2 K2;refine wpList_plain rfl (fun K2 hK2=>?_);go_simp;refine hK2 _ _ ?_;clear hK2 K2;refine wpList_nil ?_;go_wp2;refine bodyPost_ret (v:=.tuple #[u,.int .i64 c]) (by simp[results,Tryz.results26,go_sem]) rfl ?_;exact⟨u,rfl,HO.out,HB.out⟩
theorem aKC.all{w:World}{n:Int}{ops:List TO}{e:Ending}{w':World}(h:aKC w n ops e w'):∃p u,e=.returned (.tuple #[.pointer p,u,.int .i64 (trC n ops)])∧yA.Own w.heap.size w' u (trA n ops)∧Bl w w'∧(trC n ops=0→∃P ρ A J,p=some ⟨P,0,none⟩∧St w' ρ P A (trF n ops) J∧∀x,x<w.heap.size→ρ x=0):=by
 rcases lW n ops with⟨e1,h1⟩ | ⟨e1,h1,h2⟩ | ⟨e1,h1,h2⟩
 ·refine⟨none,.slice none 0 0,by rw[e1];exact h.dev h1,?_,h.bel,fun q=>absurd (e1.symm.trans q) (by omega)⟩
  unfold trA;rw[if_neg (by omega)];exact Ely.Own.nil _ _
 ·refine⟨none,.slice none 0 0,by rw[e1];exact h.lim h1 h2,?_,h.bel,fun q=>absurd (e1.symm.trans q) (by omega)⟩
  unfold trA;rw[if_neg (by omega)];exact Ely.Own.nil _ _
 ·obtain⟨P,ga,ρ,A,J,he,hS,hr,hI,hg0,hgw⟩:=h.ok h1 h2
  refine⟨some ⟨P,0,none⟩,_,by rw[e1];exact he,?_,h.bel,fun _=>⟨P,ρ,A,J,rfl,hS,hr⟩⟩;unfold trA;rw[if_pos e1];refine⟨some ga,[],?_,⟨fun g e=>?_,fun e=>(by cases e),?_⟩,fun g e=>?_⟩
  ·rw[jO];rfl
  ·cases e;rw[List.append_nil];exact hI
  ·rw[jO];simp[maxLen];omega
  ·cases e;exact hgw
theorem qL(n:Int)(ops:List TO)(v:Value)(w:World)(hv:yO.Sl w v ops)(hl:ops.length≤1048576):Calls Tryz.prog 27 #[.int .i64 n,v] w fun e w'=>∃u,e=.returned (.tuple #[u,.int .i64 (trC n ops)])∧yA.Own w.heap.size w' u (trA n ops)∧Bl w w':=by
 go_enter Tryz.func27,Tryz.ntmps27
 go_wp2_with fail
 refine(aCM n ops v w hv hl).mono ?_;intro e w1 hP;obtain⟨p,u,rfl,hO,hb,_⟩:=hP.all;clear hP;go_wp2;refine bodyPost_ret (v:=.tuple #[u,.int .i64 (trC n ops)]) (by simp[results,Tryz.results27,go_sem]) rfl ?_;exact⟨u,rfl,hO,hb⟩
end Go.Proofs.YtaahkgkdpnnhhaaGreat
namespace Go.Proofs.YtaahkgkdpnnhhaaGreat
open Go.RowKit Fo
theorem uO(x0:Int)(x1:Int)(x2:ByteArray)(x3:ByteArray)(w:World):Calls Tryz.prog 37 #[.agg #[.int .i64 x0,.int .i64 x1,.string x2,.string x3],.agg #[.int .i64 x0,.int .i64 x1,.string x2,.string x3]] w fun e w'=>e=.returned (.bool true)∧Bl w w':=by
 have hq0:(x0 != x0)=false:=by simp
 have hq1:(x1 != x1)=false:=by simp
 obtain⟨b1,hb1⟩:=eZ (w.heap.size);obtain⟨w1,hw1⟩:=eZ (w.alloc (.cells #[.int .i64 x0,.int .i64 x1,.string x2,.string x3] 63));obtain⟨b2,hb2⟩:=eZ (w1.heap.size);obtain⟨w2,hw2⟩:=eZ (w1.alloc (.cells #[.int .i64 x0,.int .i64 x1,.string x2,.string x3] 63));have B1:=bAl hw1;have B2:=bAl hw2;have i1:=iNw hw1 hb1;have i2:=iNw hw2 hb2;have i1':=i1.of (B2.block _ i1.lt);have HB:=aA (B1.trans (B2.mono B1.size));have e0:w2.cell? ⟨b1,0,none⟩=some (.int .i64 x0):=i1'.c rfl;have f0:w2.cell? ⟨b2,0,none⟩=some (.int .i64 x0):=i2.c rfl;have e1:w2.cell? ⟨b1,1,none⟩=some (.int .i64 x1):=i1'.c rfl;have f1:w2.cell? ⟨b2,1,none⟩=some (.int .i64 x1):=i2.c rfl;have e2:w2.cell? ⟨b1,2,none⟩=some (.string x2):=i1'.c rfl;have f2:w2.cell? ⟨b2,2,none⟩=some (.string x2):=i2.c rfl;have e3:w2.cell? ⟨b1,3,none⟩=some (.string x3):=i1'.c rfl;have f3:w2.cell? ⟨b2,3,none⟩=some (.string x3):=i2.c rfl;clear i1 i2 i1' B1 B2;go_enter Tryz.func37,Tryz.ntmps37;go_wp2;refine bodyPost_ret (v:=.bool true) (by simp[results,Tryz.results37,go_sem]) rfl ?_;exact⟨rfl,HB.out⟩
theorem aKQ{w:World}{u:Value}{l:List TO}(h:yO.Sl w u l)(hl:0<l.length):∃g o c,u=.slice (some ⟨g,o,none⟩) l.length c∧g<w.heap.size∧∀(w':World) (i:Nat),(w'.heap[g]?=w.heap[g]?)→i<l.length→w'.cell? ⟨g,o+i*4,none⟩=some (.int .i64 (l.getD i yO.z).1)∧w'.cell? ⟨g,o+i*4+1,none⟩=some (.int .i64 (l.getD i yO.z).2.1)∧w'.cell? ⟨g,o+i*4+2,none⟩=some (.string (l.getD i yO.z).2.2.1)∧w'.cell? ⟨g,o+i*4+3,none⟩=some (.string (l.getD i yO.z).2.2.2):=by
 obtain⟨g,o,c,e,hg,hc⟩:=h.at hl;refine⟨g,o,c,e,hg,fun w' i he hi=>?_⟩;have hw:∀k,w'.cell? ⟨g,k,none⟩=w.cell? ⟨g,k,none⟩:=fun k=>by simp[World.cell?,he]
 refine⟨?_,?_,?_,?_⟩
 ·rw[hw];exact hc i 0 hi (by decide)
 ·rw[hw];exact hc i 1 hi (by decide)
 ·rw[hw];exact hc i 2 hi (by decide)
 ·rw[hw];exact hc i 3 hi (by decide)
theorem mI(v v':Value)(l:List TO)(w:World)(hv:yO.Sl w v l)(hv':yO.Sl w v' l)(hn:l.length≤4294967296):Calls Tryz.prog 12 #[v,v'] w fun e w'=>e=.returned (.bool true)∧Bl w w':=by
 obtain⟨va,vc,hve⟩:=hv.len;obtain⟨ua,uc,hue⟩:=hv'.len;have HV:=aA (aI hv hv');subst hve;subst hue;clear hv hv';have heq:((l.length:Int) !=(l.length:Int))=false:=by simp
 go_enter Tryz.func12,Tryz.ntmps12
 go_wp2
 go_loopw [5] (fun i wr=>∃k:Nat,k≤l.length∧i=.int .i64 k∧Bl w wr) (fun i _=>l.length -(intOf i).toNat)
 case atStart=>exact⟨0,by omega,rfl,bQ _ _⟩
 case round=>
  obtain⟨k,hk,rfl,hb⟩:=hrel;by_cases hlt:k<l.length
  ·obtain⟨g,o,cc,hve,hgw,hcell⟩:=aKQ HV.out.1 (by omega)
   simp only[Value.slice.injEq,true_and]at hve;obtain⟨rfl,rfl⟩:=hve;obtain⟨g',o',cc',hve',hgw',hcell'⟩:=aKQ HV.out.2 (by omega);simp only[Value.slice.injEq,true_and]at hve';obtain⟨rfl,rfl⟩:=hve';have hki:(k:Int) <(l.length:Int):=by omega
   have ha:=hcell wr k (hb.block g hgw) hlt;have hc:=hcell' wr k (hb.block g' hgw') hlt;have HA:Hid (∀wq,Bl wr wq→wq.cell? ⟨g,o+k*4,none⟩=some (.int .i64 (l.getD k yO.z).1)∧wq.cell? ⟨g,o+k*4+1,none⟩=some (.int .i64 (l.getD k yO.z).2.1)∧wq.cell? ⟨g,o+k*4+2,none⟩=some (.string (l.getD k yO.z).2.2.1)∧wq.cell? ⟨g,o+k*4+3,none⟩=some (.string (l.getD k yO.z).2.2.2)∧wq.cell? ⟨g',o'+k*4,none⟩=some (.int .i64 (l.getD k yO.z).1)∧wq.cell? ⟨g',o'+k*4+1,none⟩=some (.int .i64 (l.getD k yO.z).2.1)∧wq.cell? ⟨g',o'+k*4+2,none⟩=some (.string (l.getD k yO.z).2.2.1)∧wq.cell? ⟨g',o'+k*4+3,none⟩=some (.string (l.getD k yO.z).2.2.2)):=fun wq hq=>by
    have hbq:=hb.trans (hq.mono hb.size);have h1:=hcell wq k (hbq.block g hgw) hlt;have h2:=hcell' wq k (hbq.block g' hgw') hlt;exact⟨h1.1,h1.2.1,h1.2.2.1,h1.2.2.2,h2.1,h2.2.1,h2.2.2.1,h2.2.2.2⟩
   generalize l.getD k yO.z=op at *;obtain⟨x0,x1,x2,x3⟩:=op;simp only at ha hc HA;obtain⟨p0,p1,p2,p3⟩:=ha;obtain⟨q0,q1,q2,q3⟩:=hc;clear hcell hcell';go_wp2;go_region_held3 (fun W=>W.cell? ⟨g,o+k*4,none⟩=some (.int .i64 x0)∧W.cell? ⟨g,o+k*4+1,none⟩=some (.int .i64 x1)∧W.cell? ⟨g,o+k*4+2,none⟩=some (.string x2)∧W.cell? ⟨g,o+k*4+3,none⟩=some (.string x3)∧W.cell? ⟨g',o'+k*4,none⟩=some (.int .i64 x0)∧W.cell? ⟨g',o'+k*4+1,none⟩=some (.int .i64 x1)∧W.cell? ⟨g',o'+k*4+2,none⟩=some (.string x2)∧W.cell? ⟨g',o'+k*4+3,none⟩=some (.string x3)) (first | assumption | go_keep | exact⟨p0,p1,p2,p3,q0,q1,q2,q3⟩ | exact HA.out _ (bQ _ _).drew | exact HA.out _ hB) ((go_at_call 37;refine(uO x0 x1 x2 x3 _).mono ?_;rintro e w2 ⟨rfl,hB0⟩;have hB:Bl wr w2:=(bQ wr.heap.size wr).drew.trans hB0));go_wp2;go_roundw
   case rel=>exact⟨k+1,by omega,by go_num,hb.trans (hB.mono hb.size)⟩
   case measure=>simp[intOf];omega
  ·have hki:¬(k:Int) <(l.length:Int):=by omega
   go_wp2
   refine bodyPost_ret (v:=.bool true) (by simp[results,Tryz.results12,go_sem]) rfl ?_;exact⟨rfl,hb⟩
def tU(k:Int)(j:Nat):TO:=((k+4*(j:Int)),(k+4*(j:Int)+1),(mkT (k+4*(j:Int)+1+1).toNat),(mkT (k+4*(j:Int)+1+1+1).toNat))
def eI(k:Int)(m:Nat):List TO:=(List.range m).map fun j=>tU k j
def dE(k:Int)(l:List TO)(j:Nat):List TO:=eI k j++l.drop j
theorem mG(k:Int)(m:Nat):(eI k m).length=m:=by simp[eI]
theorem uG(k:Int)(l:List TO)(j:Nat)(h:j≤l.length):(dE k l j).length=l.length:=by simp[dE,mG];omega
theorem sA(k:Int)(l:List TO):dE k l 0=l:=by simp[dE,eI]
theorem uJ(k:Int)(l:List TO):dE k l l.length=eI k l.length:=by simp[dE]
theorem rZ(k:Int)(l:List TO)(j:Nat)(h:j<l.length):(dE k l j).set j (tU k j)=dE k l (j+1):=by
 unfold dE;have hl:=mG k j;rw[List.set_append_right _ _ (by omega),hl,Nat.sub_self,List.drop_eq_getElem_cons h,List.set_cons_zero];have:eI k (j+1)=eI k j++[tU k j]:=by unfold eI;rw[List.range_succ,List.map_append];rfl
 rw[this,List.append_assoc];rfl
theorem kI(lo hi:Nat)(v:Value)(l:List TO)(k:Int)(w:World)(hv:fN yO lo hi w v l)(hk:1≤k)(hn:k+4*(l.length:Int)≤900000000):Calls Tryz.prog 13 #[v,.int .i64 k] w fun e w'=>e=.returned (.int .i64 (k+4*(l.length:Int)))∧fN yO lo hi w' v (eI k l.length)∧Upd lo hi w w':=by
 obtain⟨va,vc,hve⟩:=hv.len;subst hve;have HV:=aA hv;clear hv;go_enter Tryz.func13,Tryz.ntmps13;go_wp2;go_loopw [1,5] (fun q i wr=>∃j:Nat,j≤l.length∧i=.int .i64 j∧q=.int .i64 (k+4*(j:Int))∧fN yO lo hi wr (.slice va l.length vc) (dE k l j)∧Frm (fun b=>lo≤b∧b<hi) w wr) (fun _ i _=>l.length -(intOf i).toNat)
 case atStart=>exact⟨0,by omega,rfl,by simp,by rw[sA];exact HV.out,Frm.refl _ _⟩
 case round=>
  obtain⟨j,hj,rfl,rfl,hO,hF⟩:=hrel;have hdl:=uG k l j hj;by_cases hlt:j<l.length
  ·have HST:=aA (rZ k l j hlt)
   rcases hO with⟨e,e2⟩ | ⟨g,cap,pre,post,e,hg1,hg2,I0⟩
   ·rw[e2]at hdl;simp at hdl;omega
   rw[hdl]at e;simp only[Value.slice.injEq,true_and]at e;obtain⟨rfl,rfl⟩:=e;generalize dE k l j=M at *;have hjM:j<M.length:=by omega
   have hji:(j:Int) <(l.length:Int):=by omega
   have hb9:k+4*(j:Int)+4≤900000000:=by omega
   obtain⟨⟨y0,y1,y2,y3⟩,hel⟩:∃x,M.getD j yO.z=x:=⟨_,rfl⟩;have HEL:=aA hel;obtain⟨o,ho⟩:=eZ (pre.length*yO.n);have HO:=aA ho;rw[ho];have HMI:Hid (∀(W:World) (N:List TO),IsC W g (yO.row (pre++N++post)) 63→N.length=M.length→W.cell? ⟨g,o+j*4,none⟩=some (.int .i64 (N.getD j yO.z).1)∧W.cell? ⟨g,o+j*4+1,none⟩=some (.int .i64 (N.getD j yO.z).2.1)∧W.cell? ⟨g,o+j*4+2,none⟩=some (.string (N.getD j yO.z).2.2.1)∧W.cell? ⟨g,o+j*4+3,none⟩=some (.string (N.getD j yO.z).2.2.2)):=fun W N hI hN=>by
    rw[←ho];refine⟨?_,?_,?_,?_⟩
    ·exact yO.mid hI (j:=j) (f:=0) (by omega) (by decide)
    ·exact yO.mid hI (j:=j) (f:=1) (by omega) (by decide)
    ·exact yO.mid hI (j:=j) (f:=2) (by omega) (by decide)
    ·exact yO.mid hI (j:=j) (f:=3) (by omega) (by decide)
   have HS1:Hid (∀(W:World) (N:List TO) (f:Nat) (vv:Value) (a':TO),IsC W g (yO.row (pre++N++post)) 63→N.length=M.length→f<4→yO.cell a'=(yO.cell (N.getD j yO.z)).set f vv→IsC (W.setCell ⟨g,o+j*4+f,none⟩ vv) g (yO.row (pre++N.set j a'++post)) 63):=fun W N f vv a' hI hN hf hc=>by
    have:=hI.set (o+j*4+f) vv
    have e:o+j*4+f=(pre.length+j)*yO.n+f:=by rw[←ho,Nat.add_mul];rfl
    rw[e]at this ⊢;rw[yO.set1 (pre++N++post) (i:=pre.length+j) (by simp;omega) hf vv a' (by rw[wK pre N post j (by omega)];exact hc),aDI pre N post j (by omega)]at this;exact this
   clear ho;have G0:M.getD j yO.z=(y0,y1,y2,y3):=hel;have FR0:=hF;clear hel hF;have c0:wr.cell? ⟨g,o+j*4,none⟩=some (.int .i64 y0):=by have:=(HMI.out wr _ I0 (by simp)).1;rw[G0]at this;exact this
   have z0:=I0.frozen (o+j*4);have I1:=HS1.out wr _ 0 (.int .i64 (k+4*(j:Int))) ((k+4*(j:Int)),y1,y2,y3) I0 (by simp) (by omega) (by rw[G0];rfl);simp only[Nat.add_zero]at I1;have FR1:=FR0.trans (Frm.set (S:=fun b=>lo≤b∧b<hi) wr (p:=⟨g,o+j*4,none⟩) ⟨hg1,hg2⟩ (.int .i64 (k+4*(j:Int))));obtain⟨W1,hW1⟩:=eZ (wr.setCell ⟨g,o+j*4,none⟩ (.int .i64 (k+4*(j:Int))));rw[hW1]at I1 FR1;have G1:(M.set j ((k+4*(j:Int)),y1,y2,y3)).getD j yO.z=((k+4*(j:Int)),y1,y2,y3):=by simp[hjM]
   have c1:W1.cell? ⟨g,o+j*4+1,none⟩=some (.int .i64 y1):=by have:=(HMI.out W1 _ I1 (by simp)).2.1;rw[G1]at this;exact this
   have z1:=I1.frozen (o+j*4+1);have I2:=HS1.out W1 _ 1 (.int .i64 (k+4*(j:Int)+1)) ((k+4*(j:Int)),(k+4*(j:Int)+1),y2,y3) I1 (by simp) (by omega) (by rw[G1];rfl);have FR2:=FR1.trans (Frm.set (S:=fun b=>lo≤b∧b<hi) W1 (p:=⟨g,o+j*4+1,none⟩) ⟨hg1,hg2⟩ (.int .i64 (k+4*(j:Int)+1)));obtain⟨W2,hW2⟩:=eZ (W1.setCell ⟨g,o+j*4+1,none⟩ (.int .i64 (k+4*(j:Int)+1)));rw[hW2]at I2 FR2;rw[List.set_set]at I2;have G2:(M.set j ((k+4*(j:Int)),(k+4*(j:Int)+1),y2,y3)).getD j yO.z=((k+4*(j:Int)),(k+4*(j:Int)+1),y2,y3):=by simp[hjM]
   have c2:W2.cell? ⟨g,o+j*4+2,none⟩=some (.string y2):=by have:=(HMI.out W2 _ I2 (by simp)).2.2.1;rw[G2]at this;exact this
   have z2:=I2.frozen (o+j*4+2);go_wp2_with fail;refine(gY (k+4*(j:Int)+1+1) W2 (by omega) (by omega)).mono ?_;rintro e V2 ⟨rfl,hb2⟩;have J2:=I2.of (hb2.block _ I2.lt);have FV2:=FR2.trans (Frm.of_below hb2);clear c2 z2;have c2:V2.cell? ⟨g,o+j*4+2,none⟩=some (.string y2):=by have:=(HMI.out V2 _ J2 (by simp)).2.2.1;rw[G2]at this;exact this
   have z2:=J2.frozen (o+j*4+2);have I3:=HS1.out V2 _ 2 (.string (mkT (k+4*(j:Int)+1+1).toNat)) ((k+4*(j:Int)),(k+4*(j:Int)+1),(mkT (k+4*(j:Int)+1+1).toNat),y3) J2 (by simp) (by omega) (by rw[G2];rfl);have FR3:=FV2.trans (Frm.set (S:=fun b=>lo≤b∧b<hi) V2 (p:=⟨g,o+j*4+2,none⟩) ⟨hg1,hg2⟩ (.string (mkT (k+4*(j:Int)+1+1).toNat)));obtain⟨W3,hW3⟩:=eZ (V2.setCell ⟨g,o+j*4+2,none⟩ (.string (mkT (k+4*(j:Int)+1+1).toNat)));rw[hW3]at I3 FR3;rw[List.set_set]at I3;have G3:(M.set j ((k+4*(j:Int)),(k+4*(j:Int)+1),(mkT (k+4*(j:Int)+1+1).toNat),y3)).getD j yO.z=((k+4*(j:Int)),(k+4*(j:Int)+1),(mkT (k+4*(j:Int)+1+1).toNat),y3):=by simp[hjM]
   have c3:W3.cell? ⟨g,o+j*4+3,none⟩=some (.string y3):=by have:=(HMI.out W3 _ I3 (by simp)).2.2.2;rw[G3]at this;exact this
   have z3:=I3.frozen (o+j*4+3);go_wp2_with fail;refine(gY (k+4*(j:Int)+1+1+1) W3 (by omega) (by omega)).mono ?_;rintro e V3 ⟨rfl,hb3⟩;have J3:=I3.of (hb3.block _ I3.lt);have FV3:=FR3.trans (Frm.of_below hb3);clear c3 z3;have c3:V3.cell? ⟨g,o+j*4+3,none⟩=some (.string y3):=by have:=(HMI.out V3 _ J3 (by simp)).2.2.2;rw[G3]at this;exact this
   have z3:=J3.frozen (o+j*4+3);have I4:=HS1.out V3 _ 3 (.string (mkT (k+4*(j:Int)+1+1+1).toNat)) ((k+4*(j:Int)),(k+4*(j:Int)+1),(mkT (k+4*(j:Int)+1+1).toNat),(mkT (k+4*(j:Int)+1+1+1).toNat)) J3 (by simp) (by omega) (by rw[G3];rfl);have FR4:=FV3.trans (Frm.set (S:=fun b=>lo≤b∧b<hi) V3 (p:=⟨g,o+j*4+3,none⟩) ⟨hg1,hg2⟩ (.string (mkT (k+4*(j:Int)+1+1+1).toNat)));obtain⟨W4,hW4⟩:=eZ (V3.setCell ⟨g,o+j*4+3,none⟩ (.string (mkT (k+4*(j:Int)+1+1+1).toNat)));rw[hW4]at I4 FR4;rw[List.set_set]at I4;have G4:(M.set j ((k+4*(j:Int)),(k+4*(j:Int)+1),(mkT (k+4*(j:Int)+1+1).toNat),(mkT (k+4*(j:Int)+1+1+1).toNat))).getD j yO.z=((k+4*(j:Int)),(k+4*(j:Int)+1),(mkT (k+4*(j:Int)+1+1).toNat),(mkT (k+4*(j:Int)+1+1+1).toNat)):=by simp[hjM]
   have HN:Hid (fN yO lo hi W4 (.slice (some ⟨g,o,none⟩) l.length vc) (dE k l (j+1))):=by
    rw[←HST.out];refine .inr ⟨g,vc,pre,post,?_,hg1,hg2,I4⟩;rw[List.length_set,hdl];show Value.slice (some ⟨g,o,none⟩) _ _=Value.slice (some ⟨g,pre.length*yO.n,none⟩) _ _
    rw[HO.out]
   clear HMI HS1 HEL G0 G1 G2 G3 G4 I0 I1 I2 I3 I4;go_wp2;go_roundw
   case rel=>exact⟨j+1,by omega,by go_num,by go_num,HN.out,FR4⟩
   case measure=>simp[intOf];omega
  ·obtain rfl:j=l.length:=by omega
   rw[uJ]at hO;have HN:=aA hO;have hji:¬((l.length:Nat):Int) <((l.length:Nat):Int):=by omega
   clear hO;go_wp2;refine bodyPost_ret (v:=.int .i64 (k+4*(l.length:Int))) (by simp[results,Tryz.results13,go_sem]) rfl ?_;exact⟨rfl,HN.out,⟨hF.os,hF.tape,hF.output,hF.size,fun b hb hn=>hF.block b hb (by omega)⟩⟩
theorem xP(x0 x1:Int)(x2 x3:ByteArray)(w:World):Calls Tryz.prog 35 #[.agg #[.int .i64 x0,.int .i64 x1,.string x2,.string x3]] w fun e w'=>e=.returned (.agg #[.int .i64 x0,.int .i64 x1,.string x2,.string x3])∧Bl w w':=by
 obtain⟨b1,hb1⟩:=eZ (w.heap.size);obtain⟨w1,hw1⟩:=eZ (w.alloc (.cells #[.int .i64 x0,.int .i64 x1,.string x2,.string x3] 53));obtain⟨b2,hb2⟩:=eZ (w1.heap.size);obtain⟨w2,hw2⟩:=eZ (w1.alloc (.cells #[.int .i64 0,.int .i64 0,.string {data:=#[]},.string {data:=#[]}] 63));obtain⟨b3,hb3⟩:=eZ (w2.heap.size);obtain⟨w3,hw3⟩:=eZ (w2.alloc (.cells #[.int .i64 0,.int .i64 0,.string {data:=#[]},.string {data:=#[]}] 63));have B1:=bAl hw1;have B2:=bAl hw2;have B3:=bAl hw3;have i1:=iNw hw1 hb1;have i2:=iNw hw2 hb2;have i3:=iNw hw3 hb3;have i13:=(i1.of (B2.block _ i1.lt)).of (B3.block _ (lL i1.lt B2.size));have i23:=i2.of (B3.block _ i2.lt);have n13:b1≠b3:=by have:=i1.lt;have:=B2.size;omega
 have n23:b2≠b3:=by have:=i2.lt;omega
 have HB:=aA ((B1.trans (B2.mono B1.size)).trans (B3.mono (lT B1.size B2.size)));have hb2w:w.heap.size≤b2∧w.heap.size≤b3:=by have:=B1.size;have:=B2.size;omega
 have p0:w3.cell? ⟨b1,0,none⟩=some (.int .i64 x0):=i13.c rfl;have p1:w3.cell? ⟨b1,1,none⟩=some (.int .i64 x1):=i13.c rfl;have p2:w3.cell? ⟨b1,2,none⟩=some (.string x2):=i13.c rfl;have p3:w3.cell? ⟨b1,3,none⟩=some (.string x3):=i13.c rfl;have q0:w3.cell? ⟨b3,0,none⟩=some (.int .i64 0):=i3.c rfl;have q1:w3.cell? ⟨b3,1,none⟩=some (.int .i64 0):=i3.c rfl;have q2:w3.cell? ⟨b3,2,none⟩=some (.string {data:=#[]}):=i3.c rfl;have q3:w3.cell? ⟨b3,3,none⟩=some (.string {data:=#[]}):=i3.c rfl;have r0:w3.cell? ⟨b2,0,none⟩=some (.int .i64 0):=i23.c rfl;have r1:w3.cell? ⟨b2,1,none⟩=some (.int .i64 0):=i23.c rfl;have r2:w3.cell? ⟨b2,2,none⟩=some (.string {data:=#[]}):=i23.c rfl;have r3:w3.cell? ⟨b2,3,none⟩=some (.string {data:=#[]}):=i23.c rfl;have z0:=i3.frozen 0;have z1:=i3.frozen 1;have z2:=i3.frozen 2;have z3:=i3.frozen 3;have y0:=i23.frozen 0;have y1:=i23.frozen 1;have y2:=i23.frozen 2;have y3:=i23.frozen 3;clear i1 i2 i3 i13 i23 B1 B2 B3;go_enter Tryz.func35,Tryz.ntmps35;go_wp2;refine bodyPost_ret (v:=.agg #[.int .i64 x0,.int .i64 x1,.string x2,.string x3]) (by simp[results,Tryz.results35,go_sem,r0,r1,r2,r3,n23];try rfl) rfl ?_;refine⟨rfl,?_⟩;exact(((((((HB.out.setCell (p:=⟨b3,0,none⟩) hb2w.2 _).setCell (p:=⟨b3,1,none⟩) hb2w.2 _).setCell (p:=⟨b3,2,none⟩) hb2w.2 _).setCell (p:=⟨b3,3,none⟩) hb2w.2 _).setCell (p:=⟨b2,0,none⟩) hb2w.1 _).setCell (p:=⟨b2,1,none⟩) hb2w.1 _).setCell (p:=⟨b2,2,none⟩) hb2w.1 _).setCell (p:=⟨b2,3,none⟩) hb2w.1 _
def opP(l:List TO)(k:Nat):List TO:=l.take k++List.replicate (l.length-k) yO.z
theorem aJN{l:List TO}{k:Nat}(h:k≤l.length):(opP l k).length=l.length:=by unfold opP;simp;omega
theorem aJI{l:List TO}{k:Nat}(h:k<l.length):(opP l k).set k (l.getD k yO.z)=opP l (k+1):=by
 unfold opP;have hl:(l.take k).length=k:=by simp;omega
 rw[List.set_append_right _ _ (by omega),hl,Nat.sub_self,show l.length-k=(l.length -(k+1))+1 by omega,List.replicate_succ,List.set_cons_zero,cG l k yO.z h];simp
theorem cZ(v:Value)(l:List TO)(w:World)(hv:RdL w v l)(hl:l.length≤1048576):Calls Tryz.prog 9 #[v] w fun e w'=>e=.returned (.slice (some ⟨w.heap.size,0,none⟩) l.length l.length)∧fN yO w.heap.size w'.heap.size w' (.slice (some ⟨w.heap.size,0,none⟩) l.length l.length) l∧Bl w w':=by
 obtain⟨va,vc,hve⟩:=hv.len;have HV:=aA (aI hv hve);subst hve;clear hv;obtain⟨g,hg⟩:=eZ (w.heap.size);obtain⟨w1,hw1⟩:=eZ (w.alloc (.cells (yO.row (List.replicate l.length yO.z)) 63));have hmk:(Instr.makeSlice 27 (.int .i64 (l.length:Int)) (.int .i64 (l.length:Int))).run Tryz.prog w=.ok (.slice (some ⟨g,0,none⟩) l.length l.length) w1:=by rw[←hw1,←hg];exact yO.make l.length hl w
 have B1:=bAl hw1;have i1:=iNw hw1 hg;have HI:=aA (show IsC w1 g (yO.row (opP l 0)) 63 by simpa [opP] using i1);have HPO:Hid (∀(w':World),IsC w' g (yO.row l) 63→Bl w w'→(Ending.returned (.slice (some ⟨g,0,none⟩) l.length l.length)=.returned (.slice (some ⟨w.heap.size,0,none⟩) l.length l.length)∧fN yO w.heap.size w'.heap.size w' (.slice (some ⟨w.heap.size,0,none⟩) l.length l.length) l∧Bl w w')):=fun w' h1 h2=>by
  refine⟨by rw[hg],.inr ⟨g,l.length,[],[],by rw[hg];simp,Nat.le_of_eq hg,h1.lt,by rw[List.nil_append,List.append_nil];exact h1⟩,h2⟩
 obtain⟨PS,hPS⟩:∃PS:Ending→World→Prop,PS=fun e w'=>e=.returned (.slice (some ⟨w.heap.size,0,none⟩) l.length l.length)∧fN yO w.heap.size w'.heap.size w' (.slice (some ⟨w.heap.size,0,none⟩) l.length l.length) l∧Bl w w':=⟨_,rfl⟩;rw[←hPS];have HPS:=aA hPS;clear hPS i1;go_enter Tryz.func9,Tryz.ntmps9;go_wp2;go_loopw [4] (fun i wr=>∃k:Nat,k≤l.length∧i=.int .i64 k∧IsC wr g (yO.row (opP l k)) 63∧Bl w wr) (fun i _=>l.length -(intOf i).toNat)
 case atStart=>exact⟨0,by omega,rfl,HI.out,B1⟩
 case round=>
  clear HI hw1 hmk;obtain⟨k,hk,rfl,hI,hb⟩:=hrel;by_cases hlt:k<l.length
  ·obtain⟨gl,o,cc,hve,hgw,hcell⟩:=aKP HV.out.1 (by omega)
   simp only[Value.slice.injEq,true_and]at hve;obtain⟨rfl,rfl⟩:=hve;have hki:(k:Int) <(l.length:Int):=by omega
   obtain⟨p0,p1,p2,p3⟩:=hcell wr k (hb.block gl hgw) hlt;have hol:=aJN hk;have HST:=aA (aJI hlt);have ya:=fun(W:World) (hW:IsC W g (yO.row (opP l k)) 63) (f:Nat) (hf:f<4)=>(hW.cell (k*4+f)).trans (yO.at (opP l k) (i:=k) (j:=f) (by omega) hf);obtain⟨⟨t0,t1,t2,t3⟩,hte⟩:∃x,(opP l k).getD k yO.z=x:=⟨_,rfl⟩;obtain⟨⟨x0,x1,x2,x3⟩,hxe⟩:∃x,l.getD k yO.z=x:=⟨_,rfl⟩;rw[hxe]at HST p0 p1 p2 p3;simp only at p0 p1 p2 p3;have HI:=aA hI;clear hcell;go_wp2_with fail;refine(xP x0 x1 x2 x3 wr).mono ?_;rintro e w2 ⟨rfl,hb2⟩;have hI2:=HI.out.of (hb2.block _ HI.out.lt);have hb02:=hb.trans (hb2.mono hb.size);have y0:w2.cell? ⟨g,k*4,none⟩=some (.int .i64 t0):=by have:=ya w2 hI2 0 (by omega);rw[show(yO.cell ((opP l k).getD k yO.z))=_ from congrArg yO.cell hte]at this;exact this
   have y1:w2.cell? ⟨g,k*4+1,none⟩=some (.int .i64 t1):=by have:=ya w2 hI2 1 (by omega);rw[show(yO.cell ((opP l k).getD k yO.z))=_ from congrArg yO.cell hte]at this;exact this
   have y2:w2.cell? ⟨g,k*4+2,none⟩=some (.string t2):=by have:=ya w2 hI2 2 (by omega);rw[show(yO.cell ((opP l k).getD k yO.z))=_ from congrArg yO.cell hte]at this;exact this
   have y3:w2.cell? ⟨g,k*4+3,none⟩=some (.string t3):=by have:=ya w2 hI2 3 (by omega);rw[show(yO.cell ((opP l k).getD k yO.z))=_ from congrArg yO.cell hte]at this;exact this
   have z0:=hI2.frozen (k*4);have z1:=hI2.frozen (k*4+1);have z2:=hI2.frozen (k*4+2);have z3:=hI2.frozen (k*4+3);have hS:IsC ((((w2.setCell ⟨g,k*4,none⟩ (.int .i64 x0)).setCell ⟨g,k*4+1,none⟩ (.int .i64 x1)).setCell ⟨g,k*4+2,none⟩ (.string x2)).setCell ⟨g,k*4+3,none⟩ (.string x3)) g (yO.row (opP l (k+1))) 63:=by
    rw[←HST.out];exact yO.setAt hI2 (i:=k) (by omega) (x0,x1,x2,x3)
   have hBS:Bl w ((((w2.setCell ⟨g,k*4,none⟩ (.int .i64 x0)).setCell ⟨g,k*4+1,none⟩ (.int .i64 x1)).setCell ⟨g,k*4+2,none⟩ (.string x2)).setCell ⟨g,k*4+3,none⟩ (.string x3)):=
    (((hb02.setCell (p:=⟨g,k*4,none⟩) (Nat.le_of_eq hg) _).setCell (p:=⟨g,k*4+1,none⟩) (Nat.le_of_eq hg) _).setCell (p:=⟨g,k*4+2,none⟩) (Nat.le_of_eq hg) _).setCell (p:=⟨g,k*4+3,none⟩) (Nat.le_of_eq hg) _
   obtain⟨W5,hW5⟩:=eZ ((((w2.setCell ⟨g,k*4,none⟩ (.int .i64 x0)).setCell ⟨g,k*4+1,none⟩ (.int .i64 x1)).setCell ⟨g,k*4+2,none⟩ (.string x2)).setCell ⟨g,k*4+3,none⟩ (.string x3));rw[hW5]at hS hBS;have HS:=aA (aI hS hBS);clear hS hBS hI2 ya HI hI HST hte hxe hb02;go_wp2;go_roundw
   case rel=>exact⟨k+1,by omega,by go_num,HS.out.1,HS.out.2⟩
   case measure=>simp[intOf];omega
  ·obtain rfl:k=l.length:=by omega
   have hki:¬((l.length:Nat):Int) <((l.length:Nat):Int):=by omega
   have e:opP l l.length=l:=by simp[opP]
   rw[e]at hI;have HI:=aA hI;clear hI e;go_wp2;rw[HPS.out];exact HPO.out wr HI.out hb
