import Derived.Test.YtaahkgkdpnnhhaaGreatFf2
import Derived.Test.YtaahkgkdpnnhhaaGreatHq45
set_option maxHeartbeats 9999999
set_option maxRecDepth 99999
set_option linter.all false
namespace Go.Proofs.YtaahkgkdpnnhhaaGreat
open Go.RowKit Go.Shelf Fo
variable{e:Ending}{n:Int}{ops:List TO}{w w':World}
def trC(n:Int)(ops:List TO):Int:=if inB n 8 512=false then 1 else if 2000<ops.length then 4 else 0
def trF(n:Int)(ops:List TO):fZ:=jO (aH n.toNat) ops
def trA(n:Int)(ops:List TO):List An:=if trC n ops=0 then iQ (aH n.toNat) ops else []
theorem pE(n:Int)(ops:List TO):(trC n ops=1∧inB n 8 512=false)∨(trC n ops=4∧inB n 8 512=true∧2000<ops.length)∨(trC n ops=0∧inB n 8 512=true∧ops.length≤2000):=by
 unfold trC;cases h:inB n 8 512 with
 | false=>exact .inl ⟨by simp,rfl⟩
 | true=>
  by_cases h2:2000<ops.length
  ·exact .inr (.inl ⟨by simp[h2],rfl,h2⟩)
  ·exact .inr (.inr ⟨by simp[h2],rfl,by omega⟩)
theorem RuP.all(h:RuP w n ops e w'):∃X u,e=.returned (.tuple #[.agg X,u,.int .i64 (trC n ops)])∧X.size=7∧X.all (·.oneCell')=true∧yA.Own w.heap.size w' u (trA n ops)∧Bl w w'∧(trC n ops=0→∃A,X=aL A (trF n ops)∧SpV w' A (trF n ops)∧∃a k c,A.tv=.slice a k c):=by
 rcases pE n ops with⟨e1,h1⟩ | ⟨e1,h1,h2⟩ | ⟨e1,h1,h2⟩
 ·refine⟨z7,.slice none 0 0,by rw[e1];exact h.dev h1,rfl,by simp[z7,Value.oneCell'],?_,h.bel,fun q=>absurd (e1.symm.trans q) (by omega)⟩
  unfold trA;rw[if_neg (by omega)];exact Ely.Own.nil _ _
 ·refine⟨z7,.slice none 0 0,by rw[e1];exact h.lim h1 h2,rfl,by simp[z7,Value.oneCell'],?_,h.bel,fun q=>absurd (e1.symm.trans q) (by omega)⟩
  unfold trA;rw[if_neg (by omega)];exact Ely.Own.nil _ _
 ·obtain⟨A,u,he,hV,ht,ho⟩:=h.ok h1 h2
  refine⟨_,u,by rw[e1];exact he,cX _ _,dN hV ht,?_,h.bel,fun _=>⟨A,rfl,hV,ht⟩⟩;unfold trA;rw[if_pos e1];exact ho
theorem aIM(h:trC n ops=0):aCF (aH n.toNat) (trF n ops):=by
 rcases pE n ops with⟨e1,h1⟩ | ⟨e1,h1,h2⟩ | ⟨e1,h1,h2⟩
 ·omega
 ·omega
 ·have Av:8≤n∧n≤512:=by unfold inB at h1;simpa using h1
  exact rV (Inv.fresh (n:=n.toNat) (by omega) (by omega)) (tK _) ops
theorem aIT.all(h:aIT w n ops e w'):∃p u,e=.returned (.tuple #[.pointer p,u,.int .i64 (trC n ops)])∧yA.Own w.heap.size w' u (trA n ops)∧Bl w w'∧(trC n ops=0→∃P ρ A J,p=some ⟨P,0,none⟩∧St w' ρ P A (trF n ops) J∧∀x,x<w.heap.size→ρ x=0):=by
 rcases pE n ops with⟨e1,h1⟩ | ⟨e1,h1,h2⟩ | ⟨e1,h1,h2⟩
 ·refine⟨none,.slice none 0 0,by rw[e1];exact h.dev h1,?_,h.bel,fun q=>absurd (e1.symm.trans q) (by omega)⟩
  unfold trA;rw[if_neg (by omega)];exact Ely.Own.nil _ _
 ·refine⟨none,.slice none 0 0,by rw[e1];exact h.lim h1 h2,?_,h.bel,fun q=>absurd (e1.symm.trans q) (by omega)⟩
  unfold trA;rw[if_neg (by omega)];exact Ely.Own.nil _ _
 ·obtain⟨P,ga,ρ,A,J,he,hS,hr,hI,vm,qp⟩:=h.ok h1 h2
  refine⟨some ⟨P,0,none⟩,_,by rw[e1];exact he,?_,h.bel,fun _=>⟨P,ρ,A,J,rfl,hS,hr⟩⟩;unfold trA;rw[if_pos e1];refine⟨some ga,[],?_,⟨fun g e=>?_,fun e=>(by cases e),?_⟩,fun g e=>?_⟩
  ·rw[lF];rfl
  ·cases e;rw[List.append_nil];exact hI
  ·rw[lF];simp[maxLen];omega
  ·cases e;exact qp
end Go.Proofs.YtaahkgkdpnnhhaaGreat
namespace Go.Proofs.YtaahkgkdpnnhhaaGreat
open Go.RowKit Fo
theorem tU(x0:Int)(x1:Int)(x2:ByteArray)(x3:ByteArray)(w:World):Calls Tryz.prog 37 #[.agg #[.int .i64 x0,.int .i64 x1,.string x2,.string x3],.agg #[.int .i64 x0,.int .i64 x1,.string x2,.string x3]] w fun e w'=>e=.returned (.bool true)∧Bl w w':=by
 have am:(x0 != x0)=false:=by simp
 have rh:(x1 != x1)=false:=by simp
 obtain⟨b1,ao⟩:=eZ (w.heap.size);obtain⟨w1,bh⟩:=eZ (w.alloc (.cells #[.int .i64 x0,.int .i64 x1,.string x2,.string x3] 63));obtain⟨b2,ba⟩:=eZ (w1.heap.size);obtain⟨w2,ci⟩:=eZ (w1.alloc (.cells #[.int .i64 x0,.int .i64 x1,.string x2,.string x3] 63));have B1:=bAl bh;have B2:=bAl ci;have i1:=iNw bh ao;have i2:=iNw ci ba;have i1':=i1.of (B2.block _ i1.lt);have HB:=aA (B1.trans (B2.mono B1.size));have e0:w2.cell? ⟨b1,0,none⟩=some (.int .i64 x0):=i1'.c rfl;have f0:w2.cell? ⟨b2,0,none⟩=some (.int .i64 x0):=i2.c rfl;have e1:w2.cell? ⟨b1,1,none⟩=some (.int .i64 x1):=i1'.c rfl;have f1:w2.cell? ⟨b2,1,none⟩=some (.int .i64 x1):=i2.c rfl;have e2:w2.cell? ⟨b1,2,none⟩=some (.string x2):=i1'.c rfl;have f2:w2.cell? ⟨b2,2,none⟩=some (.string x2):=i2.c rfl;have e3:w2.cell? ⟨b1,3,none⟩=some (.string x3):=i1'.c rfl;have f3:w2.cell? ⟨b2,3,none⟩=some (.string x3):=i2.c rfl;clear i1 i2 i1' B1 B2;go_enter Tryz.func37,Tryz.ntmps37;go_wp2;refine bodyPost_ret (v:=.bool true) (by simp[results,Tryz.results37,go_sem]) rfl ?_;exact⟨rfl,HB.out⟩
theorem aLF{w:World}{u:Value}{l:List TO}(h:yO.Sl w u l)(hl:0<l.length):∃g o c,u=.slice (some ⟨g,o,none⟩) l.length c∧g<w.heap.size∧∀(w':World) (i:Nat),(w'.heap[g]?=w.heap[g]?)→i<l.length→w'.cell? ⟨g,o+i*4,none⟩=some (.int .i64 (l.getD i yO.z).1)∧w'.cell? ⟨g,o+i*4+1,none⟩=some (.int .i64 (l.getD i yO.z).2.1)∧w'.cell? ⟨g,o+i*4+2,none⟩=some (.string (l.getD i yO.z).2.2.1)∧w'.cell? ⟨g,o+i*4+3,none⟩=some (.string (l.getD i yO.z).2.2.2):=by
 obtain⟨g,o,c,e,hg,hc⟩:=h.at hl;refine⟨g,o,c,e,hg,fun w' i he hi=>?_⟩;have hw:∀k,w'.cell? ⟨g,k,none⟩=w.cell? ⟨g,k,none⟩:=fun k=>by simp[World.cell?,he]
 refine⟨?_,?_,?_,?_⟩
 ·rw[hw];exact hc i 0 hi (by decide)
 ·rw[hw];exact hc i 1 hi (by decide)
 ·rw[hw];exact hc i 2 hi (by decide)
 ·rw[hw];exact hc i 3 hi (by decide)
theorem tT(v v':Value)(l:List TO)(w:World)(hv:yO.Sl w v l)(np:yO.Sl w v' l)(hn:l.length≤4294967296):Calls Tryz.prog 12 #[v,v'] w fun e w'=>e=.returned (.bool true)∧Bl w w':=by
 obtain⟨va,vc,ig⟩:=hv.len;obtain⟨ua,uc,LN⟩:=np.len;have HV:=aA (aI hv np);subst ig;subst LN;clear hv np;have Md:((l.length:Int) !=(l.length:Int))=false:=by simp
 go_enter Tryz.func12,Tryz.ntmps12
 go_wp2
 go_loopw [5] (fun i wr=>∃k:Nat,k≤l.length∧i=.int .i64 k∧Bl w wr) (fun i _=>l.length -(intOf i).toNat)
 case atStart=>exact⟨0,by omega,rfl,bQ _ _⟩
 case round=>
  obtain⟨k,hk,rfl,hb⟩:=hrel;by_cases ai:k<l.length
  ·obtain⟨g,o,cc,ig,qp,aa⟩:=aLF HV.out.1 (by omega)
   simp only[Value.slice.injEq,true_and]at ig;obtain⟨rfl,rfl⟩:=ig;obtain⟨g',o',cc',El,Bg,eu⟩:=aLF HV.out.2 (by omega);simp only[Value.slice.injEq,true_and]at El;obtain⟨rfl,rfl⟩:=El;have lq:(k:Int) <(l.length:Int):=by omega
   have ha:=aa wr k (hb.block g qp) ai;have hc:=eu wr k (hb.block g' Bg) ai;have HA:Hid (∀wq,Bl wr wq→wq.cell? ⟨g,o+k*4,none⟩=some (.int .i64 (l.getD k yO.z).1)∧wq.cell? ⟨g,o+k*4+1,none⟩=some (.int .i64 (l.getD k yO.z).2.1)∧wq.cell? ⟨g,o+k*4+2,none⟩=some (.string (l.getD k yO.z).2.2.1)∧wq.cell? ⟨g,o+k*4+3,none⟩=some (.string (l.getD k yO.z).2.2.2)∧wq.cell? ⟨g',o'+k*4,none⟩=some (.int .i64 (l.getD k yO.z).1)∧wq.cell? ⟨g',o'+k*4+1,none⟩=some (.int .i64 (l.getD k yO.z).2.1)∧wq.cell? ⟨g',o'+k*4+2,none⟩=some (.string (l.getD k yO.z).2.2.1)∧wq.cell? ⟨g',o'+k*4+3,none⟩=some (.string (l.getD k yO.z).2.2.2)):=fun wq hq=>by
    have mh:=hb.trans (hq.mono hb.size);have h1:=aa wq k (mh.block g qp) ai;have h2:=eu wq k (mh.block g' Bg) ai;exact⟨h1.1,h1.2.1,h1.2.2.1,h1.2.2.2,h2.1,h2.2.1,h2.2.2.1,h2.2.2.2⟩
   generalize l.getD k yO.z=op at *;obtain⟨x0,x1,x2,x3⟩:=op;simp only at ha hc HA;obtain⟨p0,p1,p2,p3⟩:=ha;obtain⟨q0,q1,q2,q3⟩:=hc;clear aa eu;go_wp2;go_region_held3 (fun W=>W.cell? ⟨g,o+k*4,none⟩=some (.int .i64 x0)∧W.cell? ⟨g,o+k*4+1,none⟩=some (.int .i64 x1)∧W.cell? ⟨g,o+k*4+2,none⟩=some (.string x2)∧W.cell? ⟨g,o+k*4+3,none⟩=some (.string x3)∧W.cell? ⟨g',o'+k*4,none⟩=some (.int .i64 x0)∧W.cell? ⟨g',o'+k*4+1,none⟩=some (.int .i64 x1)∧W.cell? ⟨g',o'+k*4+2,none⟩=some (.string x2)∧W.cell? ⟨g',o'+k*4+3,none⟩=some (.string x3)) (first | assumption | go_keep | exact⟨p0,p1,p2,p3,q0,q1,q2,q3⟩ | exact HA.out _ (bQ _ _).drew | exact HA.out _ hB) ((go_at_call 37;refine(tU x0 x1 x2 x3 _).mono ?_;rintro e w2 ⟨rfl,cw⟩;have hB:Bl wr w2:=(bQ wr.heap.size wr).drew.trans cw));go_wp2;go_roundw
   case rel=>exact⟨k+1,by omega,by go_num,hb.trans (hB.mono hb.size)⟩
   case measure=>simp[intOf];omega
  ·have lq:¬(k:Int) <(l.length:Int):=by omega
   go_wp2
   refine bodyPost_ret (v:=.bool true) (by simp[results,Tryz.results12,go_sem]) rfl ?_;exact⟨rfl,hb⟩
def sI(k:Int)(j:Nat):TO:=((k+4*(j:Int)),(k+4*(j:Int)+1),(mkT (k+4*(j:Int)+1+1).toNat),(mkT (k+4*(j:Int)+1+1+1).toNat))
def eH(k:Int)(m:Nat):List TO:=(List.range m).map fun j=>sI k j
def dF(k:Int)(l:List TO)(j:Nat):List TO:=eH k j++l.drop j
theorem mC(k:Int)(m:Nat):(eH k m).length=m:=by simp[eH]
theorem uG(k:Int)(l:List TO)(j:Nat)(h:j≤l.length):(dF k l j).length=l.length:=by simp[dF,mC];omega
theorem sL(k:Int)(l:List TO):dF k l 0=l:=by simp[dF,eH]
theorem uF(k:Int)(l:List TO):dF k l l.length=eH k l.length:=by simp[dF]
theorem sK(k:Int)(l:List TO)(j:Nat)(h:j<l.length):(dF k l j).set j (sI k j)=dF k l (j+1):=by
 unfold dF;have hl:=mC k j;rw[List.set_append_right _ _ (by omega),hl,Nat.sub_self,List.drop_eq_getElem_cons h,List.set_cons_zero];have:eH k (j+1)=eH k j++[sI k j]:=by unfold eH;rw[List.range_succ,List.map_append];rfl
 rw[this,List.append_assoc];rfl
theorem qE(lo hi:Nat)(v:Value)(l:List TO)(k:Int)(w:World)(hv:eJ yO lo hi w v l)(hk:1≤k)(hn:k+4*(l.length:Int)≤900000000):Calls Tryz.prog 13 #[v,.int .i64 k] w fun e w'=>e=.returned (.int .i64 (k+4*(l.length:Int)))∧eJ yO lo hi w' v (eH k l.length)∧Upd lo hi w w':=by
 obtain⟨va,vc,ig⟩:=hv.len;subst ig;have HV:=aA hv;clear hv;go_enter Tryz.func13,Tryz.ntmps13;go_wp2;go_loopw [1,5] (fun q i wr=>∃j:Nat,j≤l.length∧i=.int .i64 j∧q=.int .i64 (k+4*(j:Int))∧eJ yO lo hi wr (.slice va l.length vc) (dF k l j)∧Frm (fun b=>lo≤b∧b<hi) w wr) (fun _ i _=>l.length -(intOf i).toNat)
 case atStart=>exact⟨0,by omega,rfl,by simp,by rw[sL];exact HV.out,Frm.refl _ _⟩
 case round=>
  obtain⟨j,hj,rfl,rfl,hO,hF⟩:=hrel;have fg:=uG k l j hj;by_cases ai:j<l.length
  ·have qm:=aA (sK k l j ai)
   rcases hO with⟨e,e2⟩ | ⟨g,cap,pre,post,e,iv,oa,I0⟩
   ·rw[e2]at fg;simp at fg;omega
   rw[fg]at e;simp only[Value.slice.injEq,true_and]at e;obtain⟨rfl,rfl⟩:=e;generalize dF k l j=M at *;have Jm:j<M.length:=by omega
   have dm:(j:Int) <(l.length:Int):=by omega
   have fu:k+4*(j:Int)+4≤900000000:=by omega
   obtain⟨⟨y0,y1,y2,y3⟩,re⟩:∃x,M.getD j yO.z=x:=⟨_,rfl⟩;have Eo:=aA re;obtain⟨o,ho⟩:=eZ (pre.length*yO.n);have HO:=aA ho;rw[ho];have Cb:Hid (∀(W:World) (N:List TO),IsC W g (yO.row (pre++N++post)) 63→N.length=M.length→W.cell? ⟨g,o+j*4,none⟩=some (.int .i64 (N.getD j yO.z).1)∧W.cell? ⟨g,o+j*4+1,none⟩=some (.int .i64 (N.getD j yO.z).2.1)∧W.cell? ⟨g,o+j*4+2,none⟩=some (.string (N.getD j yO.z).2.2.1)∧W.cell? ⟨g,o+j*4+3,none⟩=some (.string (N.getD j yO.z).2.2.2)):=fun W N hI hN=>by
    rw[←ho];refine⟨?_,?_,?_,?_⟩
    ·exact yO.mid hI (j:=j) (f:=0) (by omega) (by decide)
    ·exact yO.mid hI (j:=j) (f:=1) (by omega) (by decide)
    ·exact yO.mid hI (j:=j) (f:=2) (by omega) (by decide)
    ·exact yO.mid hI (j:=j) (f:=3) (by omega) (by decide)
   have ox:Hid (∀(W:World) (N:List TO) (f:Nat) (vv:Value) (a':TO),IsC W g (yO.row (pre++N++post)) 63→N.length=M.length→f<4→yO.cell a'=(yO.cell (N.getD j yO.z)).set f vv→IsC (W.setCell ⟨g,o+j*4+f,none⟩ vv) g (yO.row (pre++N.set j a'++post)) 63):=fun W N f vv a' hI hN hf hc=>by
    have:=hI.set (o+j*4+f) vv
    have e:o+j*4+f=(pre.length+j)*yO.n+f:=by rw[←ho,Nat.add_mul];rfl
    rw[e]at this ⊢;rw[yO.set1 (pre++N++post) (i:=pre.length+j) (by simp;omega) hf vv a' (by rw[wT pre N post j (by omega)];exact hc),aDA pre N post j (by omega)]at this;exact this
   clear ho;have G0:M.getD j yO.z=(y0,y1,y2,y3):=re;have FR0:=hF;clear re hF;have c0:wr.cell? ⟨g,o+j*4,none⟩=some (.int .i64 y0):=by have:=(Cb.out wr _ I0 (by simp)).1;rw[G0]at this;exact this
   have z0:=I0.frozen (o+j*4);have I1:=ox.out wr _ 0 (.int .i64 (k+4*(j:Int))) ((k+4*(j:Int)),y1,y2,y3) I0 (by simp) (by omega) (by rw[G0];rfl);simp only[Nat.add_zero]at I1;have FR1:=FR0.trans (Frm.set (S:=fun b=>lo≤b∧b<hi) wr (p:=⟨g,o+j*4,none⟩) ⟨iv,oa⟩ (.int .i64 (k+4*(j:Int))));obtain⟨W1,AB⟩:=eZ (wr.setCell ⟨g,o+j*4,none⟩ (.int .i64 (k+4*(j:Int))));rw[AB]at I1 FR1;have G1:(M.set j ((k+4*(j:Int)),y1,y2,y3)).getD j yO.z=((k+4*(j:Int)),y1,y2,y3):=by simp[Jm]
   have c1:W1.cell? ⟨g,o+j*4+1,none⟩=some (.int .i64 y1):=by have:=(Cb.out W1 _ I1 (by simp)).2.1;rw[G1]at this;exact this
   have z1:=I1.frozen (o+j*4+1);have I2:=ox.out W1 _ 1 (.int .i64 (k+4*(j:Int)+1)) ((k+4*(j:Int)),(k+4*(j:Int)+1),y2,y3) I1 (by simp) (by omega) (by rw[G1];rfl);have FR2:=FR1.trans (Frm.set (S:=fun b=>lo≤b∧b<hi) W1 (p:=⟨g,o+j*4+1,none⟩) ⟨iv,oa⟩ (.int .i64 (k+4*(j:Int)+1)));obtain⟨W2,vg⟩:=eZ (W1.setCell ⟨g,o+j*4+1,none⟩ (.int .i64 (k+4*(j:Int)+1)));rw[vg]at I2 FR2;rw[List.set_set]at I2;have G2:(M.set j ((k+4*(j:Int)),(k+4*(j:Int)+1),y2,y3)).getD j yO.z=((k+4*(j:Int)),(k+4*(j:Int)+1),y2,y3):=by simp[Jm]
   have c2:W2.cell? ⟨g,o+j*4+2,none⟩=some (.string y2):=by have:=(Cb.out W2 _ I2 (by simp)).2.2.1;rw[G2]at this;exact this
   have z2:=I2.frozen (o+j*4+2);go_wp2_with fail;refine(eF (k+4*(j:Int)+1+1) W2 (by omega) (by omega)).mono ?_;rintro e V2 ⟨rfl,ba⟩;have J2:=I2.of (ba.block _ I2.lt);have FV2:=FR2.trans (Frm.of_below ba);clear c2 z2;have c2:V2.cell? ⟨g,o+j*4+2,none⟩=some (.string y2):=by have:=(Cb.out V2 _ J2 (by simp)).2.2.1;rw[G2]at this;exact this
   have z2:=J2.frozen (o+j*4+2);have I3:=ox.out V2 _ 2 (.string (mkT (k+4*(j:Int)+1+1).toNat)) ((k+4*(j:Int)),(k+4*(j:Int)+1),(mkT (k+4*(j:Int)+1+1).toNat),y3) J2 (by simp) (by omega) (by rw[G2];rfl);have FR3:=FV2.trans (Frm.set (S:=fun b=>lo≤b∧b<hi) V2 (p:=⟨g,o+j*4+2,none⟩) ⟨iv,oa⟩ (.string (mkT (k+4*(j:Int)+1+1).toNat)));obtain⟨W3,Aq⟩:=eZ (V2.setCell ⟨g,o+j*4+2,none⟩ (.string (mkT (k+4*(j:Int)+1+1).toNat)));rw[Aq]at I3 FR3;rw[List.set_set]at I3;have G3:(M.set j ((k+4*(j:Int)),(k+4*(j:Int)+1),(mkT (k+4*(j:Int)+1+1).toNat),y3)).getD j yO.z=((k+4*(j:Int)),(k+4*(j:Int)+1),(mkT (k+4*(j:Int)+1+1).toNat),y3):=by simp[Jm]
   have c3:W3.cell? ⟨g,o+j*4+3,none⟩=some (.string y3):=by have:=(Cb.out W3 _ I3 (by simp)).2.2.2;rw[G3]at this;exact this
   have z3:=I3.frozen (o+j*4+3);go_wp2_with fail;refine(eF (k+4*(j:Int)+1+1+1) W3 (by omega) (by omega)).mono ?_;rintro e V3 ⟨rfl,bx⟩;have J3:=I3.of (bx.block _ I3.lt);have FV3:=FR3.trans (Frm.of_below bx);clear c3 z3;have c3:V3.cell? ⟨g,o+j*4+3,none⟩=some (.string y3):=by have:=(Cb.out V3 _ J3 (by simp)).2.2.2;rw[G3]at this;exact this
   have z3:=J3.frozen (o+j*4+3);have I4:=ox.out V3 _ 3 (.string (mkT (k+4*(j:Int)+1+1+1).toNat)) ((k+4*(j:Int)),(k+4*(j:Int)+1),(mkT (k+4*(j:Int)+1+1).toNat),(mkT (k+4*(j:Int)+1+1+1).toNat)) J3 (by simp) (by omega) (by rw[G3];rfl);have FR4:=FV3.trans (Frm.set (S:=fun b=>lo≤b∧b<hi) V3 (p:=⟨g,o+j*4+3,none⟩) ⟨iv,oa⟩ (.string (mkT (k+4*(j:Int)+1+1+1).toNat)));obtain⟨W4,In⟩:=eZ (V3.setCell ⟨g,o+j*4+3,none⟩ (.string (mkT (k+4*(j:Int)+1+1+1).toNat)));rw[In]at I4 FR4;rw[List.set_set]at I4;have G4:(M.set j ((k+4*(j:Int)),(k+4*(j:Int)+1),(mkT (k+4*(j:Int)+1+1).toNat),(mkT (k+4*(j:Int)+1+1+1).toNat))).getD j yO.z=((k+4*(j:Int)),(k+4*(j:Int)+1),(mkT (k+4*(j:Int)+1+1).toNat),(mkT (k+4*(j:Int)+1+1+1).toNat)):=by simp[Jm]
   have HN:Hid (eJ yO lo hi W4 (.slice (some ⟨g,o,none⟩) l.length vc) (dF k l (j+1))):=by
    rw[←qm.out];refine .inr ⟨g,vc,pre,post,?_,iv,oa,I4⟩;rw[List.length_set,fg];show Value.slice (some ⟨g,o,none⟩) _ _=Value.slice (some ⟨g,pre.length*yO.n,none⟩) _ _
    rw[HO.out]
   clear Cb ox Eo G0 G1 G2 G3 G4 I0 I1 I2 I3 I4;go_wp2;go_roundw
   case rel=>exact⟨j+1,by omega,by go_num,by go_num,HN.out,FR4⟩
   case measure=>simp[intOf];omega
  ·obtain rfl:j=l.length:=by omega
   rw[uF]at hO;have HN:=aA hO;have dm:¬((l.length:Nat):Int) <((l.length:Nat):Int):=by omega
   clear hO;go_wp2;refine bodyPost_ret (v:=.int .i64 (k+4*(l.length:Int))) (by simp[results,Tryz.results13,go_sem]) rfl ?_;exact⟨rfl,HN.out,⟨hF.os,hF.tape,hF.output,hF.size,fun b hb hn=>hF.block b hb (by omega)⟩⟩
end Go.Proofs.YtaahkgkdpnnhhaaGreat
namespace Go.Proofs.YtaahkgkdpnnhhaaGreat
open Go.RowKit Go.Shelf Fo
variable{n tree:Int}{ops:List TO}{t:Nat}
def tsC(n:Int)(ops:List TO)(tree:Int):Int:=if trC n ops=0 then(match atT (trF n ops) tree with | none=>8 | some _=>0)else trC n ops
def tsV(n:Int)(ops:List TO)(tree:Int):List VW:=if trC n ops=0 then(match atT (trF n ops) tree with | none=>[] | some t=>shp (trF n ops) (aB (trF n ops) t))else []
theorem aME(tree:Int)(h:trC n ops≠0):tsC n ops tree=trC n ops∧tsV n ops tree=[]:=by
 unfold tsC tsV;rw[if_neg h,if_neg h];exact⟨rfl,rfl⟩
theorem aKQ(h:trC n ops=0)(ha:atT (trF n ops) tree=none):tsC n ops tree=8∧tsV n ops tree=[]:=by
 unfold tsC tsV;rw[if_pos h,if_pos h,ha];exact⟨rfl,rfl⟩
theorem aDI(h:trC n ops=0)(ha:atT (trF n ops) tree=some t):tsC n ops tree=0∧tsV n ops tree=shp (trF n ops) (aB (trF n ops) t):=by
 unfold tsC tsV;rw[if_pos h,if_pos h,ha];exact⟨rfl,rfl⟩
theorem zQ{f:fZ}(hI:Inv f)(ht:t<f.roots.length):2≤aB f t∧aB f t<512:=by
 obtain⟨h,hk,_⟩:=hI.ok t ht;have:∃d,f.nodes (aB f t)=some d:=by
  cases h with
  | zero=>obtain⟨es,q,_⟩:=hk;exact⟨_,q⟩
  | succ h=>obtain⟨es,q,_⟩:=hk;exact⟨_,q⟩
 obtain⟨d,hd⟩:=this;have h1:=hI.ic.ge2 hd;have h2:=hI.ic.lt hd;have h3:=hI.ic.n512;omega
end Go.Proofs.YtaahkgkdpnnhhaaGreat
namespace Go.Proofs.YtaahkgkdpnnhhaaGreat
open Go.RowKit Fo
variable{l:List TO}{k:Nat}
theorem xO(x0 x1:Int)(x2 x3:ByteArray)(w:World):Calls Tryz.prog 35 #[.agg #[.int .i64 x0,.int .i64 x1,.string x2,.string x3]] w fun e w'=>e=.returned (.agg #[.int .i64 x0,.int .i64 x1,.string x2,.string x3])∧Bl w w':=by
 obtain⟨b1,ao⟩:=eZ (w.heap.size);obtain⟨w1,bh⟩:=eZ (w.alloc (.cells #[.int .i64 x0,.int .i64 x1,.string x2,.string x3] 53));obtain⟨b2,ba⟩:=eZ (w1.heap.size);obtain⟨w2,ci⟩:=eZ (w1.alloc (.cells #[.int .i64 0,.int .i64 0,.string {data:=#[]},.string {data:=#[]}] 63));obtain⟨b3,bx⟩:=eZ (w2.heap.size);obtain⟨w3,dw⟩:=eZ (w2.alloc (.cells #[.int .i64 0,.int .i64 0,.string {data:=#[]},.string {data:=#[]}] 63));have B1:=bAl bh;have B2:=bAl ci;have B3:=bAl dw;have i1:=iNw bh ao;have i2:=iNw ci ba;have i3:=iNw dw bx;have i13:=(i1.of (B2.block _ i1.lt)).of (B3.block _ (lL i1.lt B2.size));have i23:=i2.of (B3.block _ i2.lt);have n13:b1≠b3:=by have:=i1.lt;have:=B2.size;omega
 have n23:b2≠b3:=by have:=i2.lt;omega
 have HB:=aA ((B1.trans (B2.mono B1.size)).trans (B3.mono (lT B1.size B2.size)));have AE:w.heap.size≤b2∧w.heap.size≤b3:=by have:=B1.size;have:=B2.size;omega
 have p0:w3.cell? ⟨b1,0,none⟩=some (.int .i64 x0):=i13.c rfl;have p1:w3.cell? ⟨b1,1,none⟩=some (.int .i64 x1):=i13.c rfl;have p2:w3.cell? ⟨b1,2,none⟩=some (.string x2):=i13.c rfl;have p3:w3.cell? ⟨b1,3,none⟩=some (.string x3):=i13.c rfl;have q0:w3.cell? ⟨b3,0,none⟩=some (.int .i64 0):=i3.c rfl;have q1:w3.cell? ⟨b3,1,none⟩=some (.int .i64 0):=i3.c rfl;have q2:w3.cell? ⟨b3,2,none⟩=some (.string {data:=#[]}):=i3.c rfl;have q3:w3.cell? ⟨b3,3,none⟩=some (.string {data:=#[]}):=i3.c rfl;have r0:w3.cell? ⟨b2,0,none⟩=some (.int .i64 0):=i23.c rfl;have r1:w3.cell? ⟨b2,1,none⟩=some (.int .i64 0):=i23.c rfl;have r2:w3.cell? ⟨b2,2,none⟩=some (.string {data:=#[]}):=i23.c rfl;have r3:w3.cell? ⟨b2,3,none⟩=some (.string {data:=#[]}):=i23.c rfl;have z0:=i3.frozen 0;have z1:=i3.frozen 1;have z2:=i3.frozen 2;have z3:=i3.frozen 3;have y0:=i23.frozen 0;have y1:=i23.frozen 1;have y2:=i23.frozen 2;have y3:=i23.frozen 3;clear i1 i2 i3 i13 i23 B1 B2 B3;go_enter Tryz.func35,Tryz.ntmps35;go_wp2;refine bodyPost_ret (v:=.agg #[.int .i64 x0,.int .i64 x1,.string x2,.string x3]) (by simp[results,Tryz.results35,go_sem,r0,r1,r2,r3,n23];try rfl) rfl ?_;refine⟨rfl,?_⟩;exact(((((((HB.out.setCell (p:=⟨b3,0,none⟩) AE.2 _).setCell (p:=⟨b3,1,none⟩) AE.2 _).setCell (p:=⟨b3,2,none⟩) AE.2 _).setCell (p:=⟨b3,3,none⟩) AE.2 _).setCell (p:=⟨b2,0,none⟩) AE.1 _).setCell (p:=⟨b2,1,none⟩) AE.1 _).setCell (p:=⟨b2,2,none⟩) AE.1 _).setCell (p:=⟨b2,3,none⟩) AE.1 _
def opP(l:List TO)(k:Nat):List TO:=l.take k++List.replicate (l.length-k) yO.z
theorem aKB(h:k≤l.length):(opP l k).length=l.length:=by unfold opP;simp;omega
theorem aKC(h:k<l.length):(opP l k).set k (l.getD k yO.z)=opP l (k+1):=by
 unfold opP;have hl:(l.take k).length=k:=by simp;omega
 rw[List.set_append_right _ _ (by omega),hl,Nat.sub_self,show l.length-k=(l.length -(k+1))+1 by omega,List.replicate_succ,List.set_cons_zero,cC l k yO.z h];simp
theorem gI(v:Value)(l:List TO)(w:World)(hv:RdL w v l)(hl:l.length≤1048576):Calls Tryz.prog 9 #[v] w fun e w'=>e=.returned (.slice (some ⟨w.heap.size,0,none⟩) l.length l.length)∧eJ yO w.heap.size w'.heap.size w' (.slice (some ⟨w.heap.size,0,none⟩) l.length l.length) l∧Bl w w':=by
 obtain⟨va,vc,ig⟩:=hv.len;have HV:=aA (aI hv ig);subst ig;clear hv;obtain⟨g,hg⟩:=eZ (w.heap.size);obtain⟨w1,bh⟩:=eZ (w.alloc (.cells (yO.row (List.replicate l.length yO.z)) 63));have OX:(Instr.makeSlice 27 (.int .i64 (l.length:Int)) (.int .i64 (l.length:Int))).run Tryz.prog w=.ok (.slice (some ⟨g,0,none⟩) l.length l.length) w1:=by rw[←bh,←hg];exact yO.make l.length hl w
 have B1:=bAl bh;have i1:=iNw bh hg;have HI:=aA (show IsC w1 g (yO.row (opP l 0)) 63 by simpa [opP] using i1);have O6:Hid (∀(w':World),IsC w' g (yO.row l) 63→Bl w w'→(Ending.returned (.slice (some ⟨g,0,none⟩) l.length l.length)=.returned (.slice (some ⟨w.heap.size,0,none⟩) l.length l.length)∧eJ yO w.heap.size w'.heap.size w' (.slice (some ⟨w.heap.size,0,none⟩) l.length l.length) l∧Bl w w')):=fun w' h1 h2=>by
  refine⟨by rw[hg],.inr ⟨g,l.length,[],[],by rw[hg];simp,Nat.le_of_eq hg,h1.lt,by rw[List.nil_append,List.append_nil];exact h1⟩,h2⟩
 obtain⟨PS,hPS⟩:∃PS:Ending→World→Prop,PS=fun e w'=>e=.returned (.slice (some ⟨w.heap.size,0,none⟩) l.length l.length)∧eJ yO w.heap.size w'.heap.size w' (.slice (some ⟨w.heap.size,0,none⟩) l.length l.length) l∧Bl w w':=⟨_,rfl⟩;rw[←hPS];have O8:=aA hPS;clear hPS i1;go_enter Tryz.func9,Tryz.ntmps9;go_wp2;go_loopw [4] (fun i wr=>∃k:Nat,k≤l.length∧i=.int .i64 k∧IsC wr g (yO.row (opP l k)) 63∧Bl w wr) (fun i _=>l.length -(intOf i).toNat)
 case atStart=>exact⟨0,by omega,rfl,HI.out,B1⟩
 case round=>
  clear HI bh OX;obtain⟨k,hk,rfl,hI,hb⟩:=hrel;by_cases ai:k<l.length
  ·obtain⟨gl,o,cc,ig,qp,aa⟩:=aLD HV.out.1 (by omega)
   simp only[Value.slice.injEq,true_and]at ig;obtain⟨rfl,rfl⟩:=ig;have lq:(k:Int) <(l.length:Int):=by omega
   obtain⟨p0,p1,p2,p3⟩:=aa wr k (hb.block gl qp) ai;have YO:=aKB hk;have qm:=aA (aKC ai);have ya:=fun(W:World) (hW:IsC W g (yO.row (opP l k)) 63) (f:Nat) (hf:f<4)=>(hW.cell (k*4+f)).trans (yO.at (opP l k) (i:=k) (j:=f) (by omega) hf);obtain⟨⟨t0,t1,t2,t3⟩,C6⟩:∃x,(opP l k).getD k yO.z=x:=⟨_,rfl⟩;obtain⟨⟨x0,x1,x2,x3⟩,Hm⟩:∃x,l.getD k yO.z=x:=⟨_,rfl⟩;rw[Hm]at qm p0 p1 p2 p3;simp only at p0 p1 p2 p3;have HI:=aA hI;clear aa;go_wp2_with fail;refine(xO x0 x1 x2 x3 wr).mono ?_;rintro e w2 ⟨rfl,ba⟩;have vu:=HI.out.of (ba.block _ HI.out.lt);have dz:=hb.trans (ba.mono hb.size);have y0:w2.cell? ⟨g,k*4,none⟩=some (.int .i64 t0):=by have:=ya w2 vu 0 (by omega);rw[show(yO.cell ((opP l k).getD k yO.z))=_ from congrArg yO.cell C6]at this;exact this
   have y1:w2.cell? ⟨g,k*4+1,none⟩=some (.int .i64 t1):=by have:=ya w2 vu 1 (by omega);rw[show(yO.cell ((opP l k).getD k yO.z))=_ from congrArg yO.cell C6]at this;exact this
   have y2:w2.cell? ⟨g,k*4+2,none⟩=some (.string t2):=by have:=ya w2 vu 2 (by omega);rw[show(yO.cell ((opP l k).getD k yO.z))=_ from congrArg yO.cell C6]at this;exact this
   have y3:w2.cell? ⟨g,k*4+3,none⟩=some (.string t3):=by have:=ya w2 vu 3 (by omega);rw[show(yO.cell ((opP l k).getD k yO.z))=_ from congrArg yO.cell C6]at this;exact this
   have z0:=vu.frozen (k*4);have z1:=vu.frozen (k*4+1);have z2:=vu.frozen (k*4+2);have z3:=vu.frozen (k*4+3);have hS:IsC ((((w2.setCell ⟨g,k*4,none⟩ (.int .i64 x0)).setCell ⟨g,k*4+1,none⟩ (.int .i64 x1)).setCell ⟨g,k*4+2,none⟩ (.string x2)).setCell ⟨g,k*4+3,none⟩ (.string x3)) g (yO.row (opP l (k+1))) 63:=by
    rw[←qm.out];exact yO.setAt vu (i:=k) (by omega) (x0,x1,x2,x3)
   have PX:Bl w ((((w2.setCell ⟨g,k*4,none⟩ (.int .i64 x0)).setCell ⟨g,k*4+1,none⟩ (.int .i64 x1)).setCell ⟨g,k*4+2,none⟩ (.string x2)).setCell ⟨g,k*4+3,none⟩ (.string x3)):=
    (((dz.setCell (p:=⟨g,k*4,none⟩) (Nat.le_of_eq hg) _).setCell (p:=⟨g,k*4+1,none⟩) (Nat.le_of_eq hg) _).setCell (p:=⟨g,k*4+2,none⟩) (Nat.le_of_eq hg) _).setCell (p:=⟨g,k*4+3,none⟩) (Nat.le_of_eq hg) _
   obtain⟨W5,Ar⟩:=eZ ((((w2.setCell ⟨g,k*4,none⟩ (.int .i64 x0)).setCell ⟨g,k*4+1,none⟩ (.int .i64 x1)).setCell ⟨g,k*4+2,none⟩ (.string x2)).setCell ⟨g,k*4+3,none⟩ (.string x3));rw[Ar]at hS PX;have HS:=aA (aI hS PX);clear hS PX vu ya HI hI qm C6 Hm dz;go_wp2;go_roundw
   case rel=>exact⟨k+1,by omega,by go_num,HS.out.1,HS.out.2⟩
   case measure=>simp[intOf];omega
  ·obtain rfl:k=l.length:=by omega
   have lq:¬((l.length:Nat):Int) <((l.length:Nat):Int):=by omega
   have e:opP l l.length=l:=by simp[opP]
   rw[e]at hI;have HI:=aA hI;clear hI e;go_wp2;rw[O8.out];exact O6.out wr HI.out hb
end Go.Proofs.YtaahkgkdpnnhhaaGreat
namespace Go.Proofs.YtaahkgkdpnnhhaaGreat
open Go.RowKit Go.Shelf Fo
variable{fr:ByteArray}{n tree:Int}{ops:List TO}{base c vc:Nat}{va:Option Addr}{w w':World}
abbrev IT:=ByteArray×ByteArray
abbrev i0:IT:=(.empty,.empty)
def scn(its:List IT)(fr:ByteArray)(lim:Int):List IT:=(its.filter fun p=>!kl p.1 fr).take (min lim 400).toNat
def itm(f:fZ)(b:Nat):List IT:=oS f 6000 b
theorem aGY{f:fZ}(hI:IC f){h b:Nat}(k:Ok f.nodes h b none none)(hz:h=0∨2≤sz f.nodes b):itm f b=aS f.nodes h b∧(aS f.nodes h b).length≤2560:=
 ⟨vA k 6000 (by have:=(aMC hI k hz).2.1;omega),oT hI k⟩
def tnV(n:Int)(ops:List TO)(tree:Int)(fr:ByteArray)(lim:Int):List IT:=if trC n ops=0 then(match atT (trF n ops) tree with | none=>[] | some t=>scn (itm (trF n ops) (aB (trF n ops) t)) fr lim)else []
theorem aIL(tree:Int)(fr:ByteArray)(lim:Int)(h:trC n ops≠0):tnV n ops tree fr lim=[]:=by unfold tnV;rw[if_neg h]
theorem aDH(fr:ByteArray)(lim:Int)(h:trC n ops=0)(ha:atT (trF n ops) tree=none):tnV n ops tree fr lim=[]:=by unfold tnV;rw[if_pos h,ha]
theorem xN(fr:ByteArray)(lim:Int){t:Nat}(h:trC n ops=0)(ha:atT (trF n ops) tree=some t):tnV n ops tree fr lim=scn (itm (trF n ops) (aB (trF n ops) t)) fr lim:=by unfold tnV;rw[if_pos h,ha]
def TnP(w:World)(n:Int)(ops:List TO)(tree:Int)(fr:ByteArray)(lim:Int)(e:Ending)(w':World):Prop:=∃u,e=.returned (.tuple #[u,.int .i64 (tsC n ops tree)])∧eJ yI w.heap.size w'.heap.size w' u (tnV n ops tree fr lim)∧Bl w w'
theorem TnP.bad(tree:Int)(fr:ByteArray)(lim:Int)(h:trC n ops≠0)(hb:Bl w w'):TnP w n ops tree fr lim (.returned (.tuple #[.slice none 0 0,.int .i64 (trC n ops)])) w':=
 ⟨_,by rw[(aME tree h).1],by rw[aIL tree fr lim h];exact .inl ⟨rfl,rfl⟩,hb⟩
theorem TnP.none(fr:ByteArray)(lim:Int)(h:trC n ops=0)(ha:atT (trF n ops) tree=none)(hb:Bl w w'):TnP w n ops tree fr lim (.returned (.tuple #[.slice none 0 0,.int .i64 8])) w':=
 ⟨_,by rw[(aKQ h ha).1],by rw[aDH fr lim h ha];exact .inl ⟨rfl,rfl⟩,hb⟩
theorem yK{its:List IT}(h1:∀a,a<c→a<its.length→kl (its.getD a i0).1 fr=true)(h2:∀a,c≤a→a<its.length→kl (its.getD a i0).1 fr=false):its.filter (fun p=>!kl p.1 fr)=its.drop c:=by
 have e:=List.take_append_drop c its;have f1:(its.take c).filter (fun p=>!kl p.1 fr)=[]:=List.filter_eq_nil_iff.2 fun p hp=>by
  obtain⟨i,hi,rfl⟩:=List.mem_iff_getElem.1 hp;have ak:i<c∧i<its.length:=by simp at hi;omega
  have:=h1 i ak.1 ak.2
  simp[gD,ak.2]at this
  simp[this]
 have f2:(its.drop c).filter (fun p=>!kl p.1 fr)=its.drop c:=List.filter_eq_self.2 fun p hp=>by
  obtain⟨i,hi,rfl⟩:=List.mem_iff_getElem.1 hp;have ak:c+i<its.length:=by simp at hi;omega
  have:=h2 (c+i) (by omega) ak
  simp[gD,ak]at this
  simp[this]
 have:=congrArg (List.filter fun p=>!kl p.1 fr) e
 rw[List.filter_append,f1,f2,List.nil_append]at this;exact this.symm
def asE(its:List IT):List E3:=its.map fun p=>(p.1,p.2,0)
theorem vW{its:List IT}{i:Nat}(hi:i<its.length):(asE its).getD i e0=((its.getD i i0).1,(its.getD i i0).2,0):=by
 simp[asE,gD,hi]
theorem jQ(its:List IT):(asE its).length=its.length:=by simp[asE]
theorem aCG{its:List IT}(h:its.Pairwise fun p q=>kl p.1 q.1=true):Srt (asE its):=fun i j g8 hj=>by
 rw[jQ]at hj;have:=List.pairwise_iff_getElem.1 h i j (by omega) hj g8;have hi:i<its.length:=by omega
 unfold ky;rw[vW hi,vW hj];simpa [gD,hi,hj] using this
theorem aIY{its:List IT}(h:its.Pairwise fun p q=>kl p.1 q.1=true)(fr:ByteArray):cLt (asE its) fr≤its.length∧its.filter (fun p=>!kl p.1 fr)=its.drop (cLt (asE its) fr):=by
 have hl:=jS (asE its) fr;rw[jQ]at hl;have hk:∀a,a<its.length→(kl (its.getD a i0).1 fr=true↔a<cLt (asE its) fr):=fun a ha=>by
  have:=gA (aCG h) fr (j:=a) (by rw[jQ];exact ha)
  unfold ky at this;rw[vW ha]at this;exact this
 exact⟨hl,yK (fun a h1 h2=>(hk a h2).2 h1) fun a h1 h2=>Bool.eq_false_iff.2 fun q=>by have:=(hk a h2).1 q;omega⟩
theorem aKF{its:List IT}(h:yI.Own base w (.slice va its.length vc) its):aLH w (.slice va its.length vc) (asE its):=by
 refine⟨va,vc,by rw[jQ],fun hp=>?_⟩;rw[jQ]at hp;obtain⟨g,o,c,e,hg,aa⟩:=aDK h.sl hp;cases e;refine⟨g,o,rfl,fun i hi=>?_⟩;rw[jQ]at hi;rw[vW hi];exact aa w i rfl hi
theorem aKE{its:List IT}(h:yI.Own base w (.slice va its.length vc) its){m:Nat}(hc:c≤its.length)(hm:m≤its.length-c):
  eJ yI base w.heap.size w (.slice (if vc=c then va else va.map (·.add (c*2))) m (vc-c)) ((its.drop c).take m)∧its.length≤vc:=by
 obtain⟨ag,junk,e,hr,hb⟩:=h;cases ag with
 | none=>
  obtain⟨e1,e2⟩:=hr.nil rfl;subst e1;subst e2;simp only[adr,Option.map_none,Value.slice.injEq,List.length_nil,Nat.add_zero,true_and]at e;obtain⟨rfl,rfl⟩:=e;have:m=0:=by simp at hm;exact hm
  subst this;exact⟨.inl ⟨by simp,by simp⟩,by simp⟩
 | some g=>
  simp only[adr,Option.map_some,Value.slice.injEq,true_and]at e;obtain⟨rfl,rfl⟩:=e;refine⟨.inr ?_,by omega⟩;have hl:((its.drop c).take m).length=m:=by simp;omega
  by_cases Ry:its.length+junk.length=c
  ·rw[if_pos Ry]
   have EX:m=0:=by omega
   subst EX;exact⟨g,its.length+junk.length-c,[],its++junk,by simp,hb g rfl,(hr.arr g rfl).lt,by simpa using hr.arr g rfl⟩
  ·rw[if_neg Ry]
   refine⟨g,its.length+junk.length-c,its.take c,(its.drop c).drop m++junk,?_,hb g rfl,(hr.arr g rfl).lt,?_⟩
   ·rw[hl]
    have:(its.take c).length=c:=by simp;omega
    rw[this];simp[Addr.add,yI];omega
   ·have e:its.take c++(its.drop c).take m++((its.drop c).drop m++junk)=its++junk:=by
     rw[List.append_assoc,←List.append_assoc ((its.drop c).take m),List.take_append_drop,←List.append_assoc,List.take_append_drop]
    rw[e];exact hr.arr g rfl
theorem xP{P:Program}{o:Oper}{a:Act}{K:Act→World→Prop}{Q:Exit→Act→World→Prop}(v:Value)(h:(execOp a.eval o).run P w=.ok (.value v) w)(k:K (a.put o.dst v) w):Oper.wp P o a w K Q:=by
 unfold Oper.wp;rw[h];exact k
theorem oR(n:Int)(ops:List TO)(v:Value)(tree:Int)(fr:ByteArray)(lim:Int)(w:World)(hv:yO.Sl w v ops)(hl:ops.length≤1048576):Calls Tryz.prog 22 #[.int .i64 n,v,.int .i64 tree,.string fr,.int .i64 lim] w (TnP w n ops tree fr lim):=by
 go_enter Tryz.func22,Tryz.ntmps22
 go_wp2_with fail
 refine(aJT n ops v w hv hl).mono ?_;intro e w1 hP;obtain⟨p,u,rfl,_,hb,kf⟩:=hP.all;clear hP;by_cases hc:trC n ops=0
 ·obtain⟨P,ρ,A,J,rfl,hS,hr⟩:=kf hc
  have hI:=(aIM hc).inv;have HN:=aA fun(w':World) (ha:atT (trF n ops) tree=none) hb=>TnP.none (w:=w) (w':=w') fr lim hc ha hb;have HT:=aA fun(t:Nat) (ha:atT (trF n ops) tree=some t)=>aI (aDI hc ha).1 (xN fr lim hc ha);obtain⟨c,CR⟩:=eZ (trC n ops);rw[CR]at hc;rw[CR];subst hc;generalize trF n ops=f at *;have hz:=hI.sz;clear CR kf hr;go_wp2_with fail;refine(aEV w1 ρ P A f J tree hS hI hz).mono ?_;rintro e w2 ⟨rfl,ba⟩;have ax:=hS.below ba;have dz:=hb.trans (ba.mono hb.size);clear hS ba hb;cases ha:atT f tree with
  | none=>
   rw[vM ha];have HF:=aA (HN.out w2 ha dz);clear ax dz HN HT hI hz;go_wp2;refine bodyPost_ret (v:=.tuple #[.slice none 0 0,.int .i64 8]) (by simp[results,Tryz.results22,go_sem]) rfl ?_;exact HF.out
  | some t=>
   rw[vN ha];obtain⟨ht,_⟩:=oM ha;obtain⟨h,hk,KU⟩:=hI.ok t ht;obtain⟨q1,q2⟩:=aGY hI.ic hk KU;have LK:=jY hk;have oa:=zQ hI ht;have av:¬((aB f t:Int)=0):=by omega
   obtain⟨t1,t2⟩:=HT.out t ha;rw[q1]at t2;obtain⟨_,_,_,hR,_⟩:=id ax;have hC:=mY hI.ic hz ρ P A J w2.heap.size (fun k hk=>Nat.eq_zero_of_not_pos fun q=>absurd (hR.own k (by omega)) (by omega)) h (aB f t) none none w2 none 0 [] hk ax (nR _) (Ely.Own.nil _ _) (by simp;omega);simp only[List.length_nil,List.nil_append]at hC;have HC:=aA hC;have FT:=aA (aI t1 t2);clear hC t1 t2 hR ax hI hz HT HN hk q1;generalize aS f.nodes h (aB f t)=its at *;generalize aB f t=r at *;go_wp2_with fail;refine HC.out.mono ?_;rintro e w3 ⟨⟨u3,rfl,vw⟩,bu⟩;obtain⟨va,vc,rfl⟩:=vw.sl.len;have bx:Bl w2 w3:=bu.below (nR _) fun k e=>e.1;have PD:=aA LK;clear bu HC;go_wp2_with fail;refine(xD _ (asE its) fr w3 (aKF vw) (by rw[jQ];omega) (aCG PD.out)).mono ?_;rintro e w4 ⟨kw,rfl⟩;obtain⟨au,QQ⟩:=aIY PD.out fr;have TC:=vw.below kw;generalize cLt (asE its) fr=c at *;have ON:(c:Int)≤(its.length:Int):=by omega
   have wd:Bl w w4:=(dz.trans (bx.mono dz.size)).trans (kw.mono (lT dz.size bx.size));obtain⟨m,hm⟩:∃m:Nat,m=min ((min lim 400).toNat) (its.length-c):=⟨_,rfl⟩;obtain⟨hcut,Ry⟩:=aKE TC (c:=c) (m:=m) au (by omega);obtain⟨v1,Aw⟩:=eZ ((if vc=c then va else va.map (·.add (c*2))));rw[Aw]at hcut;have OY:(its.drop c).take m=scn its fr lim:=by
    unfold scn;rw[QQ,hm];by_cases q:(min lim 400).toNat≤its.length-c
    ·rw[Nat.min_eq_left q]
    ·rw[Nat.min_eq_right (by omega),List.take_of_length_le (by simp),List.take_of_length_le (by simp;omega)]
   rw[OY]at hcut;obtain⟨mn,K9⟩:∃x:Int,x=min (min lim 400) ((its.length-c:Nat):Int):=⟨_,rfl⟩;obtain⟨k,hk⟩:=eZ (its.length-c);obtain⟨c1,ed⟩:=eZ (vc-c);rw[hk]at hm K9;rw[ed]at hcut;have mi:k≤c1:=by omega
   have M1:(m:Int)=max 0 mn:=by omega
   have OW:(m:Int)≤(c1:Int):=by omega
   have HF:=aA (aI (hcut.wide dz.size (nR _)) wd);have HM:=aA (aI hm (aI K9 M1));clear hcut wd OY hm K9 M1 dz bx kw vw TC QQ PD LK;go_upto_region 9 with fail
   refine wp_region_list ?_
   (iterate 2 (refine wpList_plain rfl (fun K2 ae=>?_);go_simp;refine ae _ _ ?_;clear ae K2))
   refine wpList_plain rfl (fun K2 ae=>?_);refine xP (.slice v1 k c1) (by go_simp) ?_;refine ae _ _ ?_;clear ae K2;simp only[Act.put,sB,sZ,sS]
   (iterate 1 (refine wpList_plain rfl (fun K2 ae=>?_);go_simp;refine ae _ _ ?_;clear ae K2))
   refine wpList_nil ?_;clear Aw hk ed;go_upto_region 10 with fail
   refine wp_region_list ?_
   (iterate 3 (refine wpList_plain rfl (fun K2 ae=>?_);go_simp;refine ae _ _ ?_;clear ae K2))
   refine wpList_plain rfl (fun K2 ae=>?_);refine xP (.int .i64 mn) (by go_simp;obtain⟨_,h2,_⟩:=HM.out;split<;>split<;>omega) ?_;refine ae _ _ ?_;clear ae K2;simp only[Act.put,sB,sZ,sS];refine wpList_plain rfl (fun K2 ae=>?_);refine xP (.int .i64 m) (by go_simp;obtain⟨_,_,h2⟩:=HM.out;omega) ?_;refine ae _ _ ?_;clear ae K2;simp only[Act.put,sB,sZ,sS]
   (iterate 1 (refine wpList_plain rfl (fun K2 ae=>?_);go_simp;refine ae _ _ ?_;clear ae K2))
   refine wpList_nil ?_;go_upto_region 11 with fail
   refine wp_region_list ?_
   (iterate 2 (refine wpList_plain rfl (fun K2 ae=>?_);go_simp;refine ae _ _ ?_;clear ae K2))
   refine wpList_plain rfl (fun K2 ae=>?_);refine xP (.slice v1 m c1) (by go_simp) ?_;refine ae _ _ ?_;clear ae K2;simp only[Act.put,sB,sZ,sS]
   (iterate 2 (refine wpList_plain rfl (fun K2 ae=>?_);go_simp;refine ae _ _ ?_;clear ae K2))
   refine wpList_nil ?_;go_wp2;refine bodyPost_ret (v:=.tuple #[.slice v1 m c1,.int .i64 0]) (by simp[results,Tryz.results22,go_sem]) rfl ?_;exact⟨_,by rw[FT.out.1],by rw[FT.out.2];exact HF.out.1,HF.out.2⟩
 ·have HB:=aA (TnP.bad tree fr lim hc hb)
  obtain⟨c,CR⟩:=eZ (trC n ops);rw[CR]at hc HB;rw[CR];clear CR kf;go_wp2;refine bodyPost_ret (v:=.tuple #[.slice none 0 0,.int .i64 c]) (by simp[results,Tryz.results22,go_sem]) rfl ?_;exact HB.out
theorem aID{its:List IT}{lim:Int}{j:Nat}(hj:j<its.length):scn (its.take (j+1)) fr lim=if kl (its.getD j i0).1 fr=false∧((scn (its.take j) fr lim).length:Int)<lim∧((scn (its.take j) fr lim).length:Int)<400 then scn (its.take j) fr lim++[its.getD j i0]else scn (its.take j) fr lim:=by
 unfold scn;rw[cC its j i0 hj,List.filter_append];generalize (its.take j).filter (fun p=>!kl p.1 fr)=F;generalize its.getD j i0=x;by_cases hk:kl x.1 fr=false
 ·have e:[x].filter (fun p=>!kl p.1 fr)=[x]:=by simp[hk]
  rw[e,List.length_take];by_cases hm:F.length <(min lim 400).toNat
  ·have e1:F.take (min lim 400).toNat=F:=List.take_of_length_le (by omega)
   rw[if_pos ⟨hk,by omega,by omega⟩,e1,List.take_of_length_le (by simp;omega)]
  ·rw[if_neg (fun q=>by omega),List.take_append_of_le_length (by omega)]
 ·have e:[x].filter (fun p=>!kl p.1 fr)=[]:=by simp[hk]
  rw[e,List.append_nil,if_neg (fun q=>hk q.1)]
theorem aDD(its:List IT)(fr:ByteArray)(lim:Int):(scn its fr lim).length≤400:=by
 unfold scn;rw[List.length_take];omega
theorem pC(n:Int)(ops:List TO)(v:Value)(tree:Int)(fr:ByteArray)(lim:Int)(w:World)(hv:yO.Sl w v ops)(hl:ops.length≤1048576):Calls Tryz.prog 21 #[.int .i64 n,v,.int .i64 tree,.string fr,.int .i64 lim] w (TnP w n ops tree fr lim):=by
 obtain⟨c,hc⟩:=eZ (trC n ops);have HR:=aA (aEL n ops v w hv hl);have LR:=aA (fun e w' (h:RuP w n ops e w')=>h.all);have Oh:=aA (fun(h:trC n ops≠0) (w':World) (hb:Bl w w')=>TnP.bad tree fr lim h hb);have HC:=aA hc;rw[hc]at LR Oh;clear hv hc;go_enter Tryz.func21,Tryz.ntmps21;go_upto_region 1 with fail
 refine wp_region_list ?_
 (iterate 2 (refine wpList_plain rfl (fun K2 ae=>?_);go_simp;refine ae _ _ ?_;clear ae K2))
 refine wpList_plain rfl (fun K2 ae=>?_);go_simp;refine HR.out.mono ?_;intro e w1 hP;obtain⟨X,u,rfl,TZ,de,_,ao,ik⟩:=LR.out e w1 hP;refine ae _ _ ?_;clear ae K2 hP LR HR;obtain⟨B8,VF⟩:=eZ (w1.heap.size);obtain⟨w2,ci⟩:=eZ (w1.alloc (.cells #[.int .i64 0,.slice none 0 0,.slice none 0 0,.int .i64 0,.int .i64 0,.slice none 0 0,.slice none 0 0] 57));have ba:=bAl ci;have i8:=iNw ci VF
 (iterate 5 (refine wpList_plain rfl (fun K2 ae=>?_);go_simp;refine ae _ _ ?_;clear ae K2))
 refine wpList_plain rfl (fun K2 ae=>?_);refine aM _ _ _ rfl B8 i8 rfl rfl TZ (by rw[TZ];kernel_rfl) de fun w3 j8 jF=>?_;refine ae _ _ ?_;clear ae K2;have AD:Bl w1 w3:=ba.trans (jF.below ba.size fun k e=>by omega);have vz:=ao.trans (AD.mono ao.size);have HJ:=aA j8;clear jF j8 i8 ba ci
 (iterate 2 (refine wpList_plain rfl (fun K2 ae=>?_);go_simp;refine ae _ _ ?_;clear ae K2))
 refine wpList_nil ?_;by_cases h0:c=0
 ·subst h0
  obtain⟨A,hX,TQ,iz⟩:=ik rfl;have jf:Sp w3 B8 A (trF n ops):=⟨by rw[←hX];exact HJ.out,TQ.below AD⟩;have hI:=(aIM HC.out).inv;have HN:=aA fun(w':World) (ha:atT (trF n ops) tree=none) hb=>TnP.none (w:=w) (w':=w') fr lim HC.out ha hb;have HT:=aA fun(t:Nat) (ha:atT (trF n ops) tree=some t)=>aI (aDI HC.out ha).1 (xN fr lim HC.out ha);generalize trF n ops=f at *;have jr:=hI.r16;clear hX TQ ik;go_wp2_with fail;refine(iT w3 B8 A jf (by omega) tree).mono ?_;rintro e w4 ⟨rfl,rfl⟩;cases ha:atT f tree with
  | none=>
   have hp:plZ f tree=-1:=by unfold plZ;rw[ha]
   rw[hp];have HF:=aA (HN.out w4 ha vz);clear jf vz HN HT hI;go_wp2;refine bodyPost_ret (v:=.tuple #[.slice none 0 0,.int .i64 8]) (by simp[results,Tryz.results21,go_sem]) rfl ?_;exact HF.out
  | some t=>
   have hp:plZ f tree=t:=by unfold plZ;rw[ha]
   rw[hp];obtain⟨ht,_⟩:=oM ha;obtain⟨h,hk,KU⟩:=hI.ok t ht;obtain⟨q1,q2⟩:=aGY hI.ic hk KU;obtain⟨t1,t2⟩:=HT.out t ha;rw[q1]at t2;have Nr:=aA fun(W:World) (hW:Sp W B8 A f)=>kY hI.ic A.ga A.ns A.nj h (aB f t) none none W hk hW.v.nds (by omega);have FT:=aA (aI t1 t2);have am:Sp w4.drew B8 A f:=jf.below (bQ _ _).drew;have Rx:(t:Int) <(f.roots.length:Int):=by omega
   have AP:∀W,Sp W B8 A f→W.cell? ⟨B8,1,none⟩=some (.slice (some ⟨A.ga,0,none⟩) A.ns.length (A.ns.length+A.nj.length))∧W.cell? ⟨B8,2,none⟩=some (.slice (some ⟨A.gr,0,none⟩) f.roots.length (f.roots.length+A.rj.length))∧W.cell? ⟨A.gr,t*2+1,none⟩=some (.int .i64 (aB f t)):=fun W hW=>⟨hW.cells.2.1,hW.cells.2.2.1,by
    have:=(hW.v.root ht).2
    rw[this];have oa:=zQ hI ht;unfold aB at oa ⊢;congr 2;omega⟩
   clear hk q1 t1 t2 HT HN KU;generalize aS f.nodes h (aB f t)=its at *;go_upto_region 7 with fail
   refine pU (fun W=>Sp W B8 A f) 10 (by kernel_rfl) ?_;refine cT (i:=0) 33 (.pointer (some ⟨B8,1,none⟩)) (by kernel_rfl) (by kernel_rfl) rfl (by kernel_rfl) (by kernel_rfl) (by kernel_rfl) (fun _ _ _ h=>h) rfl rfl am (fun w' hw=>by go_simp;try rfl) ?_;simp only[Act.put,sB,sZ,sS];refine cT (i:=1) 34 (.slice (some ⟨A.ga,0,none⟩) A.ns.length (A.ns.length+A.nj.length)) (by kernel_rfl) (by kernel_rfl) rfl (by kernel_rfl) (by kernel_rfl) (by kernel_rfl) (fun _ _ _ h=>h) rfl rfl am (fun w' hw=>by obtain⟨m0,m1,m2⟩:=AP w' hw;go_simp;try rfl) ?_;simp only[Act.put,sB,sZ,sS];refine cT (i:=2) 35 (.pointer (some ⟨B8,2,none⟩)) (by kernel_rfl) (by kernel_rfl) rfl (by kernel_rfl) (by kernel_rfl) (by kernel_rfl) (fun _ _ _ h=>h) rfl rfl am (fun w' hw=>by go_simp;try rfl) ?_;simp only[Act.put,sB,sZ,sS];refine cT (i:=3) 36 (.slice (some ⟨A.gr,0,none⟩) f.roots.length (f.roots.length+A.rj.length)) (by kernel_rfl) (by kernel_rfl) rfl (by kernel_rfl) (by kernel_rfl) (by kernel_rfl) (fun _ _ _ h=>h) rfl rfl am (fun w' hw=>by obtain⟨m0,m1,m2⟩:=AP w' hw;go_simp;try rfl) ?_;simp only[Act.put,sB,sZ,sS];refine cT (i:=4) 37 (.int .i64 t) (by kernel_rfl) (by kernel_rfl) rfl (by kernel_rfl) (by kernel_rfl) (by kernel_rfl) (fun _ _ _ h=>h) rfl rfl am (fun w' hw=>by go_simp;try rfl) ?_;simp only[Act.put,sB,sZ,sS];refine cT (i:=5) 38 (.pointer (some ⟨A.gr,t*2,none⟩)) (by kernel_rfl) (by kernel_rfl) rfl (by kernel_rfl) (by kernel_rfl) (by kernel_rfl) (fun _ _ _ h=>h) rfl rfl am (fun w' hw=>by go_simp;try rfl) ?_;simp only[Act.put,sB,sZ,sS];refine cT (i:=6) 39 (.pointer (some ⟨A.gr,t*2+1,none⟩)) (by kernel_rfl) (by kernel_rfl) rfl (by kernel_rfl) (by kernel_rfl) (by kernel_rfl) (fun _ _ _ h=>h) rfl rfl am (fun w' hw=>by go_simp;try rfl) ?_;simp only[Act.put,sB,sZ,sS];refine cT (i:=7) 40 (.int .i64 (aB f t)) (by kernel_rfl) (by kernel_rfl) rfl (by kernel_rfl) (by kernel_rfl) (by kernel_rfl) (fun _ _ _ h=>h) rfl rfl am (fun w' hw=>by obtain⟨m0,m1,m2⟩:=AP w' hw;go_simp;try rfl) ?_;simp only[Act.put,sB,sZ,sS];refine iO (i:=8) (by kernel_rfl) rfl rfl (fun K2 ae=>?_);go_simp;refine(Nr.out w4.drew am).mono ?_;rintro e w5 ⟨u1,rfl,DK,et⟩;have oe:=am.below et;refine ae _ _ (fun _=>oe) ?_;clear ae K2;refine cT (i:=9) 16 (u1) (by kernel_rfl) (by kernel_rfl) rfl (by kernel_rfl) (by kernel_rfl) (by kernel_rfl) (fun _ _ _ h=>h) rfl rfl oe (fun w' hw=>by go_simp;try rfl) ?_;simp only[Act.put,sB,sZ,sS];refine pT (by kernel_rfl) ?_ _;have BS:Bl w w5:=(vz.trans ((bQ _ w4).drew.mono vz.size)).trans (et.mono vz.size);obtain⟨ia,ic,rfl⟩:=DK.sl.len;obtain⟨B9,PV⟩:=eZ (w5.heap.size);obtain⟨w6,wi⟩:=eZ (w5.alloc (.cells #[] 85));have ke:=bAl wi;have Vc:yI.Own B9 w6 (.slice (some ⟨B9,0,none⟩) 0 0) []:=by
    have:=Ely.Own.lit (Y:=yI) B9 w5 (by omega) B9 PV.symm
    rw[show w5.alloc (.cells #[] yI.t)=w6 from wi]at this;exact this
   have cg:0<its.length→_:=fun h=>aDK DK.sl h;have SM:=aA (aI BS (aI ke PV));have Rl:B9≤w6.heap.size:=by rw[←PV];exact ke.size
   clear am oe AP Nr DK et jf hI vz AD ao BS ke iz;go_wp2;go_loopw [17,18] (fun u i wr=>∃j:Nat,j≤its.length∧i=.int .i64 j∧yI.Own B9 wr u (scn (its.take j) fr lim)∧Below B9 w6 wr) (fun _ i _=>its.length -(intOf i).toNat)
   case atStart=>exact⟨0,by omega,rfl,by simpa [scn] using Vc,bQ _ _⟩
   case round=>
    obtain⟨j,hj,rfl,hR,Ga⟩:=hrel;by_cases ai:j<its.length
    ·have dm:(j:Int) <(its.length:Int):=by omega
     have qk:Hid (j+1≤its.length):=ai;obtain⟨g,o,cc,he,hg,aa⟩:=cg (by omega);cases he;obtain⟨_,ke,Lp⟩:=SM.out;obtain⟨y0,y1⟩:=aa wr j ((Ga.block g (by omega)).trans (ke.block g hg)) ai;have HS:=aA (aID (fr:=fr) (lim:=lim) ai);have Ky:=aDD (its.take j) fr lim;have bd:B9≤wr.heap.size:=lT Rl Ga.size;obtain⟨ua,uc,rfl⟩:=hR.sl.len;generalize scn (its.take j) fr lim=L at *;have e2:its.getD j (.empty,.empty)=((its.getD j i0).1,(its.getD j i0).2):=rfl;rw[e2]at y0 y1;have e3:its.getD j i0=((its.getD j i0).1,(its.getD j i0).2):=rfl;rw[e3]at HS;simp only at y0 y1 HS;generalize (its.getD j i0).1=kx at *;generalize (its.getD j i0).2=vx at *;clear aa ke Lp e2 e3;by_cases hkx:Op.bytesLess kx.toList fr.toList=true
     ·have HE:Hid (scn (its.take (j+1)) fr lim=L):=by
       show _=_
       rw[HS.out,if_neg fun q=>by have q1:=q.1;unfold kl at q1;rw[hkx]at q1;cases q1]
      clear HS;go_wp2;go_roundw
      case rel=>exact⟨j+1,qk.out,by go_num,by rw[HE.out];exact hR,Ga⟩
      case measure=>have Jk:=qk.out;simp[intOf];omega
     ·have uh:Op.bytesLess kx.toList fr.toList=false:=by simpa using hkx
      have lu:Op.bytesLess fr.toList kx.toList=true∨(kx.toList == fr.toList)=true:=by
       rcases jZ (a:=kx) (b:=fr) uh with e | e
       ·exact .inr (by rw[e];exact beq_self_eq_true _)
       ·exact .inl e
      clear hkx;by_cases hL:(L.length:Int)<lim
      ·by_cases h4:(L.length:Int)<400
       ·have HE:Hid (scn (its.take (j+1)) fr lim=L++[(kx,vx)]):=by
         show _=_
         rw[HS.out,if_pos ⟨uh,hL,h4⟩]
        have ah:L.length<1000000:=by omega
        clear HS lu;go_wp2_with (first | (at_builtin;refine yI.wpApp1 rfl _ _ rfl hR rfl (kx,vx) rfl rfl ah bd ?_;intro u' w7 k1 k2 k3) | go_in);rw[←HE.out]at k1;clear k3;go_wp2;go_roundw
        case rel=>exact⟨j+1,qk.out,by go_num,k1,Ga.trans k2⟩
        case measure=>have Jk:=qk.out;simp[intOf];omega
       ·have HE:Hid (scn (its.take (j+1)) fr lim=L):=by
         show _=_
         rw[HS.out,if_neg fun q=>h4 q.2.2]
        clear HS lu;go_wp2;go_roundw
        case rel=>exact⟨j+1,qk.out,by go_num,by rw[HE.out];exact hR,Ga⟩
        case measure=>have Jk:=qk.out;simp[intOf];omega
      ·have HE:Hid (scn (its.take (j+1)) fr lim=L):=by
        show _=_
        rw[HS.out,if_neg fun q=>hL q.2.1]
       clear HS lu;go_wp2;go_roundw
       case rel=>exact⟨j+1,qk.out,by go_num,by rw[HE.out];exact hR,Ga⟩
       case measure=>have Jk:=qk.out;simp[intOf];omega
    ·obtain rfl:j=its.length:=by omega
     rw[List.take_of_length_le (nR _)]at hR;obtain⟨ua,uc,rfl⟩:=hR.sl.len;have HF:Hid (eJ yI w.heap.size wr.heap.size wr (.slice ua (scn its fr lim).length uc) (scn its fr lim)∧Bl w wr):=by
      obtain⟨BS,ke,Lp⟩:=SM.out;exact⟨hR.yown.wide (by have:=BS.size;omega) (nR _),(BS.trans (ke.mono BS.size)).trans (Ga.mono (by have:=BS.size;omega))⟩
     clear cg hR Ga;generalize scn its fr lim=L at *;go_wp2;refine bodyPost_ret (v:=.tuple #[.slice ua L.length uc,.int .i64 0]) (by simp[results,Tryz.results21,go_sem]) rfl ?_;exact⟨_,by rw[FT.out.1],by rw[FT.out.2];exact HF.out.1,HF.out.2⟩
 ·have HB:=aA (Oh.out h0 w3 vz)
  clear ik HJ Oh;go_wp2;refine bodyPost_ret (v:=.tuple #[.slice none 0 0,.int .i64 c]) (by simp[results,Tryz.results21,go_sem]) rfl ?_;exact HB.out
end Go.Proofs.YtaahkgkdpnnhhaaGreat
namespace Go.Proofs.YtaahkgkdpnnhhaaGreat
open Go.RowKit Fo
theorem yL(x0:ByteArray)(x1:ByteArray)(w:World):Calls Tryz.prog 47 #[.agg #[.string x0,.string x1],.agg #[.string x0,.string x1]] w fun e w'=>e=.returned (.bool true)∧Bl w w':=by
 obtain⟨b1,ao⟩:=eZ (w.heap.size);obtain⟨w1,bh⟩:=eZ (w.alloc (.cells #[.string x0,.string x1] 85));obtain⟨b2,ba⟩:=eZ (w1.heap.size);obtain⟨w2,ci⟩:=eZ (w1.alloc (.cells #[.string x0,.string x1] 85));have B1:=bAl bh;have B2:=bAl ci;have i1:=iNw bh ao;have i2:=iNw ci ba;have i1':=i1.of (B2.block _ i1.lt);have HB:=aA (B1.trans (B2.mono B1.size));have e0:w2.cell? ⟨b1,0,none⟩=some (.string x0):=i1'.c rfl;have f0:w2.cell? ⟨b2,0,none⟩=some (.string x0):=i2.c rfl;have e1:w2.cell? ⟨b1,1,none⟩=some (.string x1):=i1'.c rfl;have f1:w2.cell? ⟨b2,1,none⟩=some (.string x1):=i2.c rfl;clear i1 i2 i1' B1 B2;go_enter Tryz.func47,Tryz.ntmps47;go_wp2;refine bodyPost_ret (v:=.bool true) (by simp[results,Tryz.results47,go_sem]) rfl ?_;exact⟨rfl,HB.out⟩
theorem aIQ{w:World}{u:Value}{l:List IT}(h:yI.Sl w u l)(hl:0<l.length):∃g o c,u=.slice (some ⟨g,o,none⟩) l.length c∧g<w.heap.size∧∀(w':World) (i:Nat),(w'.heap[g]?=w.heap[g]?)→i<l.length→w'.cell? ⟨g,o+i*2,none⟩=some (.string (l.getD i yI.z).1)∧w'.cell? ⟨g,o+i*2+1,none⟩=some (.string (l.getD i yI.z).2):=by
 obtain⟨g,o,c,e,hg,hc⟩:=h.at hl;refine⟨g,o,c,e,hg,fun w' i he hi=>?_⟩;have hw:∀k,w'.cell? ⟨g,k,none⟩=w.cell? ⟨g,k,none⟩:=fun k=>by simp[World.cell?,he]
 refine⟨?_,?_⟩
 ·rw[hw];exact hc i 0 hi (by decide)
 ·rw[hw];exact hc i 1 hi (by decide)
theorem kR(v v':Value)(l:List IT)(w:World)(hv:yI.Sl w v l)(np:yI.Sl w v' l)(hn:l.length≤4294967296):Calls Tryz.prog 23 #[v,v'] w fun e w'=>e=.returned (.bool true)∧Bl w w':=by
 obtain⟨va,vc,ig⟩:=hv.len;obtain⟨ua,uc,LN⟩:=np.len;have HV:=aA (aI hv np);subst ig;subst LN;clear hv np;have Md:((l.length:Int) !=(l.length:Int))=false:=by simp
 go_enter Tryz.func23,Tryz.ntmps23
 go_wp2
 go_loopw [5] (fun i wr=>∃k:Nat,k≤l.length∧i=.int .i64 k∧Bl w wr) (fun i _=>l.length -(intOf i).toNat)
 case atStart=>exact⟨0,by omega,rfl,bQ _ _⟩
 case round=>
  obtain⟨k,hk,rfl,hb⟩:=hrel;by_cases ai:k<l.length
  ·obtain⟨g,o,cc,ig,qp,aa⟩:=aIQ HV.out.1 (by omega)
   simp only[Value.slice.injEq,true_and]at ig;obtain⟨rfl,rfl⟩:=ig;obtain⟨g',o',cc',El,Bg,eu⟩:=aIQ HV.out.2 (by omega);simp only[Value.slice.injEq,true_and]at El;obtain⟨rfl,rfl⟩:=El;have lq:(k:Int) <(l.length:Int):=by omega
   have ha:=aa wr k (hb.block g qp) ai;have hc:=eu wr k (hb.block g' Bg) ai;have HA:Hid (∀wq,Bl wr wq→wq.cell? ⟨g,o+k*2,none⟩=some (.string (l.getD k yI.z).1)∧wq.cell? ⟨g,o+k*2+1,none⟩=some (.string (l.getD k yI.z).2)∧wq.cell? ⟨g',o'+k*2,none⟩=some (.string (l.getD k yI.z).1)∧wq.cell? ⟨g',o'+k*2+1,none⟩=some (.string (l.getD k yI.z).2)):=fun wq hq=>by
    have mh:=hb.trans (hq.mono hb.size);have h1:=aa wq k (mh.block g qp) ai;have h2:=eu wq k (mh.block g' Bg) ai;exact⟨h1.1,h1.2,h2.1,h2.2⟩
   generalize l.getD k yI.z=op at *;obtain⟨x0,x1⟩:=op;simp only at ha hc HA;obtain⟨p0,p1⟩:=ha;obtain⟨q0,q1⟩:=hc;clear aa eu;go_wp2;go_region_held3 (fun W=>W.cell? ⟨g,o+k*2,none⟩=some (.string x0)∧W.cell? ⟨g,o+k*2+1,none⟩=some (.string x1)∧W.cell? ⟨g',o'+k*2,none⟩=some (.string x0)∧W.cell? ⟨g',o'+k*2+1,none⟩=some (.string x1)) (first | assumption | go_keep | exact⟨p0,p1,q0,q1⟩ | exact HA.out _ (bQ _ _).drew | exact HA.out _ hB) ((go_at_call 47;refine(yL x0 x1 _).mono ?_;rintro e w2 ⟨rfl,cw⟩;have hB:Bl wr w2:=(bQ wr.heap.size wr).drew.trans cw));go_wp2;go_roundw
   case rel=>exact⟨k+1,by omega,by go_num,hb.trans (hB.mono hb.size)⟩
   case measure=>simp[intOf];omega
  ·have lq:¬(k:Int) <(l.length:Int):=by omega
   go_wp2
   refine bodyPost_ret (v:=.bool true) (by simp[results,Tryz.results23,go_sem]) rfl ?_;exact⟨rfl,hb⟩
def wU(k:Int)(j:Nat):IT:=((mkT (k+2*(j:Int)).toNat),(mkT (k+2*(j:Int)+1).toNat))
def eP(k:Int)(m:Nat):List IT:=(List.range m).map fun j=>wU k j
def eO(k:Int)(l:List IT)(j:Nat):List IT:=eP k j++l.drop j
theorem lB(k:Int)(m:Nat):(eP k m).length=m:=by simp[eP]
theorem zK(k:Int)(l:List IT)(j:Nat)(h:j≤l.length):(eO k l j).length=l.length:=by simp[eO,lB];omega
theorem wW(k:Int)(l:List IT):eO k l 0=l:=by simp[eO,eP]
theorem zJ(k:Int)(l:List IT):eO k l l.length=eP k l.length:=by simp[eO]
theorem zL(k:Int)(m j:Nat)(z:IT)(h:j<m):(eP k m).getD j z=wU k j:=by simp[eP,h]
theorem wV(k:Int)(l:List IT)(j:Nat)(h:j<l.length):(eO k l j).set j (wU k j)=eO k l (j+1):=by
 unfold eO;have hl:=lB k j;rw[List.set_append_right _ _ (by omega),hl,Nat.sub_self,List.drop_eq_getElem_cons h,List.set_cons_zero];have:eP k (j+1)=eP k j++[wU k j]:=by unfold eP;rw[List.range_succ,List.map_append];rfl
 rw[this,List.append_assoc];rfl
theorem uE(lo hi:Nat)(v:Value)(l:List IT)(k:Int)(w:World)(hv:eJ yI lo hi w v l)(hk:1≤k)(hn:k+2*(l.length:Int)≤900000000):Calls Tryz.prog 24 #[v,.int .i64 k] w fun e w'=>e=.returned (.int .i64 (k+2*(l.length:Int)))∧eJ yI lo hi w' v (eP k l.length)∧Upd lo hi w w':=by
 obtain⟨va,vc,ig⟩:=hv.len;subst ig;have HV:=aA hv;clear hv;go_enter Tryz.func24,Tryz.ntmps24;go_wp2;go_loopw [1,5] (fun q i wr=>∃j:Nat,j≤l.length∧i=.int .i64 j∧q=.int .i64 (k+2*(j:Int))∧eJ yI lo hi wr (.slice va l.length vc) (eO k l j)∧Frm (fun b=>lo≤b∧b<hi) w wr) (fun _ i _=>l.length -(intOf i).toNat)
 case atStart=>exact⟨0,by omega,rfl,by simp,by rw[wW];exact HV.out,Frm.refl _ _⟩
 case round=>
  obtain⟨j,hj,rfl,rfl,hO,hF⟩:=hrel;have fg:=zK k l j hj;by_cases ai:j<l.length
  ·have qm:=aA (wV k l j ai)
   rcases hO with⟨e,e2⟩ | ⟨g,cap,pre,post,e,iv,oa,I0⟩
   ·rw[e2]at fg;simp at fg;omega
   rw[fg]at e;simp only[Value.slice.injEq,true_and]at e;obtain⟨rfl,rfl⟩:=e;generalize eO k l j=M at *;have Jm:j<M.length:=by omega
   have dm:(j:Int) <(l.length:Int):=by omega
   have fu:k+2*(j:Int)+2≤900000000:=by omega
   obtain⟨⟨y0,y1⟩,re⟩:∃x,M.getD j yI.z=x:=⟨_,rfl⟩;have Eo:=aA re;obtain⟨o,ho⟩:=eZ (pre.length*yI.n);have HO:=aA ho;rw[ho];have Cb:Hid (∀(W:World) (N:List IT),IsC W g (yI.row (pre++N++post)) 85→N.length=M.length→W.cell? ⟨g,o+j*2,none⟩=some (.string (N.getD j yI.z).1)∧W.cell? ⟨g,o+j*2+1,none⟩=some (.string (N.getD j yI.z).2)):=fun W N hI hN=>by
    rw[←ho];refine⟨?_,?_⟩
    ·exact yI.mid hI (j:=j) (f:=0) (by omega) (by decide)
    ·exact yI.mid hI (j:=j) (f:=1) (by omega) (by decide)
   have ox:Hid (∀(W:World) (N:List IT) (f:Nat) (vv:Value) (a':IT),IsC W g (yI.row (pre++N++post)) 85→N.length=M.length→f<2→yI.cell a'=(yI.cell (N.getD j yI.z)).set f vv→IsC (W.setCell ⟨g,o+j*2+f,none⟩ vv) g (yI.row (pre++N.set j a'++post)) 85):=fun W N f vv a' hI hN hf hc=>by
    have:=hI.set (o+j*2+f) vv
    have e:o+j*2+f=(pre.length+j)*yI.n+f:=by rw[←ho,Nat.add_mul];rfl
    rw[e]at this ⊢;rw[yI.set1 (pre++N++post) (i:=pre.length+j) (by simp;omega) hf vv a' (by rw[wT pre N post j (by omega)];exact hc),aDA pre N post j (by omega)]at this;exact this
   clear ho;have G0:M.getD j yI.z=(y0,y1):=re;have FR0:=hF;clear re hF;have c0:wr.cell? ⟨g,o+j*2,none⟩=some (.string y0):=by have:=(Cb.out wr _ I0 (by simp)).1;rw[G0]at this;exact this
   have z0:=I0.frozen (o+j*2);go_wp2_with fail;refine(eF (k+2*(j:Int)) wr (by omega) (by omega)).mono ?_;rintro e V0 ⟨rfl,gz⟩;have J0:=I0.of (gz.block _ I0.lt);have FV0:=FR0.trans (Frm.of_below gz);clear c0 z0;have c0:V0.cell? ⟨g,o+j*2,none⟩=some (.string y0):=by have:=(Cb.out V0 _ J0 (by simp)).1;rw[G0]at this;exact this
   have z0:=J0.frozen (o+j*2);have I1:=ox.out V0 _ 0 (.string (mkT (k+2*(j:Int)).toNat)) ((mkT (k+2*(j:Int)).toNat),y1) J0 (by simp) (by omega) (by rw[G0];rfl);simp only[Nat.add_zero]at I1;have FR1:=FV0.trans (Frm.set (S:=fun b=>lo≤b∧b<hi) V0 (p:=⟨g,o+j*2,none⟩) ⟨iv,oa⟩ (.string (mkT (k+2*(j:Int)).toNat)));obtain⟨W1,AB⟩:=eZ (V0.setCell ⟨g,o+j*2,none⟩ (.string (mkT (k+2*(j:Int)).toNat)));rw[AB]at I1 FR1;have G1:(M.set j ((mkT (k+2*(j:Int)).toNat),y1)).getD j yI.z=((mkT (k+2*(j:Int)).toNat),y1):=by simp[Jm]
   have c1:W1.cell? ⟨g,o+j*2+1,none⟩=some (.string y1):=by have:=(Cb.out W1 _ I1 (by simp)).2;rw[G1]at this;exact this
   have z1:=I1.frozen (o+j*2+1);go_wp2_with fail;refine(eF (k+2*(j:Int)+1) W1 (by omega) (by omega)).mono ?_;rintro e V1 ⟨rfl,ao⟩;have J1:=I1.of (ao.block _ I1.lt);have FV1:=FR1.trans (Frm.of_below ao);clear c1 z1;have c1:V1.cell? ⟨g,o+j*2+1,none⟩=some (.string y1):=by have:=(Cb.out V1 _ J1 (by simp)).2;rw[G1]at this;exact this
   have z1:=J1.frozen (o+j*2+1);have I2:=ox.out V1 _ 1 (.string (mkT (k+2*(j:Int)+1).toNat)) ((mkT (k+2*(j:Int)).toNat),(mkT (k+2*(j:Int)+1).toNat)) J1 (by simp) (by omega) (by rw[G1];rfl);have FR2:=FV1.trans (Frm.set (S:=fun b=>lo≤b∧b<hi) V1 (p:=⟨g,o+j*2+1,none⟩) ⟨iv,oa⟩ (.string (mkT (k+2*(j:Int)+1).toNat)));obtain⟨W2,vg⟩:=eZ (V1.setCell ⟨g,o+j*2+1,none⟩ (.string (mkT (k+2*(j:Int)+1).toNat)));rw[vg]at I2 FR2;rw[List.set_set]at I2;have G2:(M.set j ((mkT (k+2*(j:Int)).toNat),(mkT (k+2*(j:Int)+1).toNat))).getD j yI.z=((mkT (k+2*(j:Int)).toNat),(mkT (k+2*(j:Int)+1).toNat)):=by simp[Jm]
   have HN:Hid (eJ yI lo hi W2 (.slice (some ⟨g,o,none⟩) l.length vc) (eO k l (j+1))):=by
    rw[←qm.out];refine .inr ⟨g,vc,pre,post,?_,iv,oa,I2⟩;rw[List.length_set,fg];show Value.slice (some ⟨g,o,none⟩) _ _=Value.slice (some ⟨g,pre.length*yI.n,none⟩) _ _
    rw[HO.out]
   clear Cb ox Eo G0 G1 G2 I0 I1 I2;go_wp2;go_roundw
   case rel=>exact⟨j+1,by omega,by go_num,by go_num,HN.out,FR2⟩
   case measure=>simp[intOf];omega
  ·obtain rfl:j=l.length:=by omega
   rw[zJ]at hO;have HN:=aA hO;have dm:¬((l.length:Nat):Int) <((l.length:Nat):Int):=by omega
   clear hO;go_wp2;refine bodyPost_ret (v:=.int .i64 (k+2*(l.length:Int))) (by simp[results,Tryz.results24,go_sem]) rfl ?_;exact⟨rfl,HN.out,⟨hF.os,hF.tape,hF.output,hF.size,fun b hb hn=>hF.block b hb (by omega)⟩⟩
theorem tY(v:Value)(k:Int)(m:Nat)(w:World)(hv:yI.Sl w v (eP k m))(hk:1≤k)(hn:k+2*(m:Int)≤900000000):Calls Tryz.prog 25 #[v,.int .i64 k] w fun e w'=>e=.returned (.int .i64 (k+2*(m:Int)))∧Bl w w':=by
 obtain⟨va,vc,ig⟩:=hv.len;have CV:=lB k m;rw[CV]at ig;have HV:=aA (aI hv ig);subst ig;clear hv;go_enter Tryz.func25,Tryz.ntmps25;go_wp2;go_loopw [1,5] (fun q i wr=>∃j:Nat,j≤m∧i=.int .i64 j∧q=.int .i64 (k+2*(j:Int))∧Bl w wr) (fun _ i _=>m -(intOf i).toNat)
 case atStart=>exact⟨0,by omega,rfl,by simp,bQ _ _⟩
 case round=>
  obtain⟨j,hj,rfl,rfl,hb⟩:=hrel;by_cases ai:j<m
  ·obtain⟨g,o,cc,ig,qp,aa⟩:=aIQ HV.out.1 (by omega)
   rw[CV]at ig;simp only[Value.slice.injEq,true_and]at ig;obtain⟨rfl,rfl⟩:=ig;have dm:(j:Int) <(m:Int):=by omega
   have fu:k+2*(j:Int)+2≤900000000:=by omega
   have HA:Hid (∀wq,Bl w wq→wq.cell? ⟨g,o+j*2,none⟩=some (.string (mkT (k+2*(j:Int)).toNat))∧wq.cell? ⟨g,o+j*2+1,none⟩=some (.string (mkT (k+2*(j:Int)+1).toNat))):=fun wq hq=>by
    have h1:=aa wq j (hq.block g qp) (by omega);rw[zL k m j yI.z ai]at h1;exact h1
   clear aa;have c0:=(HA.out wr hb).1;go_wp2;go_region_held3 (fun W=>W.cell? ⟨g,o+j*2,none⟩=some (.string (mkT (k+2*(j:Int)).toNat))) (first | assumption | go_keep | exact c0 | exact(HA.out _ cw).1) ((go_at_call 38;refine(eF (k+2*(j:Int)) _ (by omega) (by omega)).mono ?_;rintro e V0 ⟨rfl,MM⟩;have cw:Bl w V0:=hb.trans ((bQ _ _).drew.trans (MM.mono hb.size))));have c1:=(HA.out V0 cw).2;go_wp2;go_region_held3 (fun W=>W.cell? ⟨g,o+j*2+1,none⟩=some (.string (mkT (k+2*(j:Int)+1).toNat))) (first | assumption | go_keep | exact c1 | exact(HA.out _ eX).2) ((go_at_call 38;refine(eF (k+2*(j:Int)+1) _ (by omega) (by omega)).mono ?_;rintro e V1 ⟨rfl,CL⟩;have eX:Bl w V1:=cw.trans ((bQ _ _).drew.trans (CL.mono cw.size))));go_wp2;go_roundw
   case rel=>exact⟨j+1,by omega,by go_num,by go_num,eX⟩
   case measure=>simp[intOf];omega
  ·obtain rfl:j=m:=by omega
   have dm:¬((j:Nat):Int) <((j:Nat):Int):=by omega
   go_wp2
   refine bodyPost_ret (v:=.int .i64 (k+2*(j:Int))) (by simp[results,Tryz.results25,go_sem]) rfl ?_;exact⟨rfl,hb⟩
theorem uM(n:Int)(ops:List TO)(tree:Int)(fr:ByteArray)(lim:Int):(tnV n ops tree fr lim).length≤400:=by
 by_cases h:trC n ops=0
 ·cases ha:atT (trF n ops) tree with
  | none=>rw[aDH fr lim h ha];simp
  | some t=>rw[xN fr lim h ha];exact aDD _ _ _
 ·rw[aIL tree fr lim h];simp
theorem pD(n:Int)(ops:List TO)(v:Value)(tree:Int)(fr:ByteArray)(lim:Int)(w:World)(hv:yO.Sl w v ops)(hl:ops.length≤1048576):Calls Tryz.prog 21 #[.int .i64 n,v,.int .i64 tree,.string fr,.int .i64 lim] w fun e w'=>∃a c,e=.returned (.tuple #[.slice a (tnV n ops tree fr lim).length c,.int .i64 (tsC n ops tree)])∧eJ yI w.heap.size w'.heap.size w' (.slice a (tnV n ops tree fr lim).length c) (tnV n ops tree fr lim)∧Bl w w':=
 (pC n ops v tree fr lim w hv hl).mono fun e w' ⟨u,h1,h2,h3⟩=>by
  obtain⟨a,c,rfl⟩:=h2.len;exact⟨a,c,h1,h2,h3⟩
theorem jL(n:Int)(ops:List TO)(v:Value)(tree:Int)(fr:ByteArray)(lim:Int)(w:World)(hv:yO.Sl w v ops)(hl:ops.length≤1048576):Calls Tryz.prog 22 #[.int .i64 n,v,.int .i64 tree,.string fr,.int .i64 lim] w fun e w'=>∃a c,e=.returned (.tuple #[.slice a (tnV n ops tree fr lim).length c,.int .i64 (tsC n ops tree)])∧eJ yI w.heap.size w'.heap.size w' (.slice a (tnV n ops tree fr lim).length c) (tnV n ops tree fr lim)∧Bl w w':=
 (oR n ops v tree fr lim w hv hl).mono fun e w' ⟨u,h1,h2,h3⟩=>by
  obtain⟨a,c,rfl⟩:=h2.len;exact⟨a,c,h1,h2,h3⟩
theorem uN(x0:Int)(a1:Option Addr)(c1:Nat)(z1:List TO)(x2:Int)(x3:ByteArray)(x4:Int)(w:World)(Aw:RdL w (.slice a1 z1.length c1) z1)(vo:z1.length≤9223372036854775807)(gh:∀o∈z1,o.2.2.1.size≤9223372036854775807∧o.2.2.2.size≤9223372036854775807):
  Calls Tryz.prog 5 #[.int .i64 x0,.slice a1 z1.length c1,.int .i64 x2,.string x3,.int .i64 x4] w fun e w'=>e=.returned (.bool true)∧Bl w w':=by
 have KF:=uM x0 z1 x2 x3 x4;have av:(tsC x0 z1 x2 != tsC x0 z1 x2)=false:=by simp
 go_enter Tryz.func5,Tryz.ntmps5
 by_cases hsx3:(1048576:Int) <(x3.size:Int)
 case pos=>
  go_wp2
  refine bodyPost_ret (v:=.bool true) (by simp[results,Tryz.results5,go_sem]) rfl ?_;exact⟨rfl,bQ _ _⟩
 go_wp2_with fail
 refine(uL z1 _ w Aw vo gh).mono ?_;rintro e w1 ⟨⟨r,rfl,qu⟩,ao⟩;by_cases GA:r<0
 case pos=>
  have HB:=aA ao;clear ao;go_wp2;refine bodyPost_ret (v:=.bool true) (by simp[results,Tryz.results5,go_sem]) rfl ?_;exact⟨rfl,HB.out⟩
 have ee:z1.length≤1048576:=qu (by omega);clear qu;have di:=ao;have jx:=ao.size;clear ao;go_wp2_with fail;refine(gI _ z1 _ (Aw.below di) (by omega)).mono ?_;rintro e w2 ⟨rfl,s_2,ba⟩;have D5:=di.trans (ba.mono di.size);have ti:=ba.size;clear ba di;go_wp2_with fail;refine(pD x0 z1 _ x2 x3 x4 _ s_2.sl (by omega)).mono ?_;rintro e w3 ⟨Wa0,Wc0,rfl,W0_3,bx⟩;have s_3:=s_2.below bx;have CP:=D5.trans (bx.mono D5.size);have Hf:=bx.size;clear s_2 bx D5;clear s_3;go_wp2_with fail;refine(gI _ z1 _ (Aw.below CP) (by omega)).mono ?_;rintro e w4 ⟨rfl,X_4,kw⟩;have W0_4:=W0_3.below kw;have D6:=CP.trans (kw.mono CP.size);have yn:=kw.size;clear W0_3 kw CP;go_wp2_with fail;refine(jL x0 z1 _ x2 x3 x4 _ X_4.sl (by omega)).mono ?_;rintro e w5 ⟨Ga0,Gc0,rfl,G0_5,et⟩;have W0_5:=W0_4.below et;have X_5:=X_4.below et;have D7:=D6.trans (et.mono D6.size);have LI:=et.size;clear W0_4 X_4 et D6;go_wp2_with fail;refine(kR _ _ (tnV x0 z1 x2 x3 x4) _ G0_5.sl W0_5.sl (by omega)).mono ?_;rintro e w6 ⟨rfl,ke⟩;have W0_6:=W0_5.below ke;have X_6:=X_5.below ke;have G0_6:=G0_5.below ke;have CQ:=D7.trans (ke.mono D7.size);have XL:=ke.size;clear W0_5 X_5 G0_5 ke D7;go_wp2_with fail;refine(gI _ z1 _ (Aw.below CQ) (by omega)).mono ?_;rintro e w7 ⟨rfl,T_7,vi⟩;have W0_7:=W0_6.below vi;have X_7:=X_6.below vi;have G0_7:=G0_6.below vi;have D8:=CQ.trans (vi.mono CQ.size);have YW:=vi.size;clear W0_6 X_6 G0_6 vi CQ;go_wp2_with fail;refine(tT _ _ z1 _ X_7.sl T_7.sl (by omega)).mono ?_;rintro e w8 ⟨rfl,oo⟩;have W0_8:=W0_7.below oo;have X_8:=X_7.below oo;have G0_8:=G0_7.below oo;have T_8:=T_7.below oo;have Gk:=D8.trans (oo.mono D8.size);have NK:=oo.size;clear W0_7 X_7 G0_7 T_7 oo D8;clear T_8;go_wp2_with fail;refine(qE _ _ _ z1 1 _ X_8 (by omega) (by omega)).mono ?_;rintro e w9 ⟨rfl,-,NY⟩;have W0_9:=W0_8.upd NY (by omega);have G0_9:=G0_8.upd NY (by omega);have D9:=Gk.trans (NY.below (by omega) (by omega));have Rm:=NY.size;clear W0_8 G0_8 NY Gk;clear X_8;have vn:¬(1+4*(z1.length:Int))<0:=by omega
 go_wp2_with fail
 refine(kR _ _ (tnV x0 z1 x2 x3 x4) _ G0_9.sl W0_9.sl (by omega)).mono ?_;rintro e w10 ⟨rfl,AC⟩;have W0_10:=W0_9.below AC;have G0_10:=G0_9.below AC;have D4:=D9.trans (AC.mono D9.size);have C2:=AC.size;clear W0_9 G0_9 AC D9;go_wp2_with fail;refine(uE _ _ _ (tnV x0 z1 x2 x3 x4) (1) _ G0_10 (by omega) (by omega)).mono ?_;rintro e w11 ⟨rfl,M0_11,GL⟩;have W0_11:=W0_10.upd GL (by omega);have BV:=D4.trans (GL.below (by omega) (by omega));have XH:=GL.size;clear W0_10 GL D4;clear G0_10;go_wp2_with fail;refine(tY _ (1) (tnV x0 z1 x2 x3 x4).length _ M0_11.sl (by omega) (by omega)).mono ?_;rintro e w12 ⟨rfl,D2⟩;have W0_12:=W0_11.below D2;have M0_12:=M0_11.below D2;have xn:=BV.trans (D2.mono BV.size);have XI:=D2.size;clear W0_11 M0_11 D2 BV;clear M0_12;have Wg:¬(1+2*((tnV x0 z1 x2 x3 x4).length:Int))<0:=by omega
 have YH:((1+2*((tnV x0 z1 x2 x3 x4).length:Int)) !=(1+2*((tnV x0 z1 x2 x3 x4).length:Int)))=false:=by simp
 go_wp2_with fail
 refine(gI _ z1 _ (Aw.below xn) (by omega)).mono ?_;rintro e w13 ⟨rfl,Y_13,AD⟩;have W0_13:=W0_12.below AD;have BW:=xn.trans (AD.mono xn.size);have XJ:=AD.size;clear W0_12 AD xn;go_wp2_with fail;refine(jL x0 z1 _ x2 x3 x4 _ Y_13.sl (by omega)).mono ?_;rintro e w14 ⟨Xz,X3,rfl,H0_14,xj⟩;have W0_14:=W0_13.below xj;have Y_14:=Y_13.below xj;have BX:=BW.trans (xj.mono BW.size);have XK:=xj.size;clear W0_13 Y_13 xj BW;go_wp2_with fail;refine(kR _ _ (tnV x0 z1 x2 x3 x4) _ H0_14.sl W0_14.sl (by omega)).mono ?_;rintro e w15 ⟨rfl,Cq⟩;have W0_15:=W0_14.below Cq;have Y_15:=Y_14.below Cq;have H0_15:=H0_14.below Cq;have I6:=BX.trans (Cq.mono BX.size);have oh:=Cq.size;clear W0_14 Y_14 H0_14 Cq BX;clear W0_15 Y_15 H0_15;go_wp2;refine bodyPost_ret (v:=.bool true) (by simp[results,Tryz.results5,go_sem]) rfl ?_;exact⟨rfl,I6⟩
end Go.Proofs.YtaahkgkdpnnhhaaGreat
namespace Go.Proofs.YtaahkgkdpnnhhaaGreat.fnExactTreeScan
open Go.ChangeShapes Go.WideShapes Go.ChangeAt Go.RowKit
theorem lifted(os:Os)(started:os.Started)(H:Type)(enc:TypeId×Value→H):
  ReturnsInHanded {} Tryz.checked os 5 .any (Rows.fnExactTreeScanSpec.pre6 enc Tryz.prog Tryz.f5 Rows.fnExactTreeScanRow.domain false) (Rows.fnExactTreeScanSpec.post enc Tryz.prog Tryz.f5 false true false false):=by
 refine returnsInHanded_of_change (C:=Tryz.checked) ownQ started (by kernel_rfl) Tryz.func5
  (ChangeSpec.witness6 (enc:=enc) (C:=Tryz.checked) false ⟨#[],#[.int .i64 0,.slice none 0 0,.int .i64 0,.string .empty,.int .i64 0],[]⟩ 8 (by kernel_rfl) (by kernel_rfl) (by kernel_rfl) (by kernel_rfl)) ?_
 intro W base args ds gs before Hj hW WD _;have yr:∀(j:Nat) t v,Tryz.f5.params[j]?=some t→args[j]?=some v→Value.okWide Tryz.prog W .any base t v:=Hj;have Im:=hW;obtain⟨p,q,Sr,hV,rfl,Ks,F8⟩:=hW;have hA:DataW.TrodAll enc Tryz.prog W 0 (fun _=>true) true Tryz.f5.params.toList args.toList ds p:=Sr;rw[Tryz.params5]at hA yr;obtain⟨v0,vs0,d0,ds0,p0,q0,Tc,rfl,rfl,h0,r0⟩:=trodAll_cons hA;obtain⟨v1,vs1,d1,ds1,p1,q1,rfl,rfl,rfl,h1,r1⟩:=trodAll_cons r0;obtain⟨v2,vs2,d2,ds2,p2,q2,rfl,rfl,rfl,h2,r2⟩:=trodAll_cons r1;obtain⟨v3,vs3,d3,ds3,p3,q3,rfl,rfl,rfl,h3,r3⟩:=trodAll_cons r2;obtain⟨v4,vs4,d4,ds4,p4,q4,rfl,rfl,rfl,h4,r4⟩:=trodAll_cons r3;obtain⟨rfl,rfl,rfl⟩:=trodAll_nil r4;obtain rfl:args=#[v0,v1,v2,v3,v4]:=by cases args;simp_all
 obtain⟨rfl,rfl⟩:=trodVars_none hV;obtain⟨x0,rfl,rfl,rfl,w0⟩:=open_int Tryz.underlying2 (yr 0 2 v0 rfl rfl) h0;have k1:=h1;have lt1:∀x∈p1,x.block<W.heap.size:=by obtain⟨m,hm⟩:=k1;exact DataW.trod_lt m _ _ _ hm
 obtain⟨a1,c1,z1,rfl,nk,ao,gh⟩:=aKD (yr 1 22 v1 rfl rfl) h1;obtain⟨x2,rfl,rfl,rfl,w2⟩:=open_int Tryz.underlying2 (yr 2 2 v2 rfl rfl) h2;obtain⟨x3,rfl,rfl,rfl,w3⟩:=Go.ChangeMaps.open_string Tryz.underlying9 (yr 3 9 v3 rfl rfl) h3;obtain⟨x4,rfl,rfl,rfl,w4⟩:=open_int Tryz.underlying2 (yr 4 2 v4 rfl rfl) h4;clear Sr Hj;refine(uN x0 a1 c1 z1 x2 x3 x4 W ao nk gh).mono fun e W' ⟨he,bel⟩=>?_;subst he;exact⟨_,rfl,_,_,_,[],_,[],Im,trodAll_mk1 (shut_bool Tryz.underlying4 _),(trodAll_cons_mk (shut_int Tryz.underlying2 w0) (trodAll_cons_mk (Below.trod laidOut (by kernel_rfl) (of_decide_eq_true (by kernel_rfl)) k1 bel lt1) (trodAll_cons_mk (shut_int Tryz.underlying2 w2) (trodAll_cons_mk (Go.ChangeMaps.shut_string Tryz.underlying9 w3) (trodAll_cons_mk (shut_int Tryz.underlying2 w4) trodAll_mk0))))),rfl,bel.frame _,fun h=>by cases h⟩
theorem over:Rows.fnExactTreeScanRow.holds Tryz.pinned (OpenSpec.ofChange Rows.fnExactTreeScanSpec):=
 OpenClaim.holds_of_wide 5 Tryz.f5 rfl rfl rfl rfl rfl rfl rfl ⟨rfl,rfl,rfl,rfl,rfl⟩ rfl rfl rfl rfl rfl (by kernel_rfl) Tryz.func5 (by kernel_rfl)
  (of_decide_eq_true (by kernel_rfl)) (by unfold Func.isWrapper;first | (rw[if_pos (by decide +kernel)];kernel_rfl) | (rw[if_neg (by decide +kernel)];exact⟨rfl,rfl⟩))
  (fun os started H enc _=>lifted os started H enc)
theorem proved:Rows.FnExactTreeScanSaid:=over
