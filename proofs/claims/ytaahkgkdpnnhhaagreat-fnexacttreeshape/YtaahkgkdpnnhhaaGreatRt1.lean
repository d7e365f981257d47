import Derived.Test.YtaahkgkdpnnhhaaGreatFf2
import Derived.Test.YtaahkgkdpnnhhaaGreatHq45
set_option maxHeartbeats 9999999
set_option maxRecDepth 99999
set_option linter.all false
namespace Go.Proofs.YtaahkgkdpnnhhaaGreat
open Go.RowKit Go.Shelf Fo
variable{e:Ending}{n:Int}{ops:List TO}{w w':World}
def trC(n:Int)(ops:List TO):Int:=if inB n 8 512=false then 1 else if 2000<ops.length then 4 else 0
def trF(n:Int)(ops:List TO):fZ:=jN (aH n.toNat) ops
def trA(n:Int)(ops:List TO):List An:=if trC n ops=0 then iR (aH n.toNat) ops else []
theorem pE(n:Int)(ops:List TO):(trC n ops=1∧inB n 8 512=false)∨(trC n ops=4∧inB n 8 512=true∧2000<ops.length)∨(trC n ops=0∧inB n 8 512=true∧ops.length≤2000):=by
 unfold trC;cases h:inB n 8 512 with
 | false=>exact .inl ⟨by simp,rfl⟩
 | true=>
  by_cases h2:2000<ops.length
  ·exact .inr (.inl ⟨by simp[h2],rfl,h2⟩)
  ·exact .inr (.inr ⟨by simp[h2],rfl,by omega⟩)
theorem RuP.all(h:RuP w n ops e w'):∃X u,e=.returned (.tuple #[.agg X,u,.int .i64 (trC n ops)])∧X.size=7∧X.all (·.oneCell')=true∧yA.Own w.heap.size w' u (trA n ops)∧Bl w w'∧(trC n ops=0→∃A,X=aK A (trF n ops)∧SpV w' A (trF n ops)∧∃a k c,A.tv=.slice a k c):=by
 rcases pE n ops with⟨e1,h1⟩ | ⟨e1,h1,h2⟩ | ⟨e1,h1,h2⟩
 ·refine⟨z7,.slice none 0 0,by rw[e1];exact h.dev h1,rfl,by simp[z7,Value.oneCell'],?_,h.bel,fun q=>absurd (e1.symm.trans q) (by omega)⟩
  unfold trA;rw[if_neg (by omega)];exact Ely.Own.nil _ _
 ·refine⟨z7,.slice none 0 0,by rw[e1];exact h.lim h1 h2,rfl,by simp[z7,Value.oneCell'],?_,h.bel,fun q=>absurd (e1.symm.trans q) (by omega)⟩
  unfold trA;rw[if_neg (by omega)];exact Ely.Own.nil _ _
 ·obtain⟨A,u,he,hV,ht,ho⟩:=h.ok h1 h2
  refine⟨_,u,by rw[e1];exact he,cZ _ _,dQ hV ht,?_,h.bel,fun _=>⟨A,rfl,hV,ht⟩⟩;unfold trA;rw[if_pos e1];exact ho
theorem aBT(h:trC n ops=0):aCB (aH n.toNat) (trF n ops):=by
 rcases pE n ops with⟨e1,h1⟩ | ⟨e1,h1,h2⟩ | ⟨e1,h1,h2⟩
 ·omega
 ·omega
 ·have Av:8≤n∧n≤512:=by unfold inB at h1;simpa using h1
  exact rZ (Inv.fresh (n:=n.toNat) (by omega) (by omega)) (tQ _) ops
theorem aIK.all(h:aIK w n ops e w'):∃p u,e=.returned (.tuple #[.pointer p,u,.int .i64 (trC n ops)])∧yA.Own w.heap.size w' u (trA n ops)∧Bl w w'∧(trC n ops=0→∃P ρ A J,p=some ⟨P,0,none⟩∧St w' ρ P A (trF n ops) J∧∀x,x<w.heap.size→ρ x=0):=by
 rcases pE n ops with⟨e1,h1⟩ | ⟨e1,h1,h2⟩ | ⟨e1,h1,h2⟩
 ·refine⟨none,.slice none 0 0,by rw[e1];exact h.dev h1,?_,h.bel,fun q=>absurd (e1.symm.trans q) (by omega)⟩
  unfold trA;rw[if_neg (by omega)];exact Ely.Own.nil _ _
 ·refine⟨none,.slice none 0 0,by rw[e1];exact h.lim h1 h2,?_,h.bel,fun q=>absurd (e1.symm.trans q) (by omega)⟩
  unfold trA;rw[if_neg (by omega)];exact Ely.Own.nil _ _
 ·obtain⟨P,ga,ρ,A,J,he,hS,hr,hI,vh,qo⟩:=h.ok h1 h2
  refine⟨some ⟨P,0,none⟩,_,by rw[e1];exact he,?_,h.bel,fun _=>⟨P,ρ,A,J,rfl,hS,hr⟩⟩;unfold trA;rw[if_pos e1];refine⟨some ga,[],?_,⟨fun g e=>?_,fun e=>(by cases e),?_⟩,fun g e=>?_⟩
  ·rw[lC];rfl
  ·cases e;rw[List.append_nil];exact hI
  ·rw[lC];simp[maxLen];omega
  ·cases e;exact qo
end Go.Proofs.YtaahkgkdpnnhhaaGreat
namespace Go.Proofs.YtaahkgkdpnnhhaaGreat
open Go.RowKit Fo
theorem uA(x0:Int)(x1:Int)(x2:ByteArray)(x3:ByteArray)(w:World):Calls Tryz.prog 37 #[.agg #[.int .i64 x0,.int .i64 x1,.string x2,.string x3],.agg #[.int .i64 x0,.int .i64 x1,.string x2,.string x3]] w fun e w'=>e=.returned (.bool true)∧Bl w w':=by
 have ak:(x0 != x0)=false:=by simp
 have qt:(x1 != x1)=false:=by simp
 obtain⟨b1,ao⟩:=eZ (w.heap.size);obtain⟨w1,be⟩:=eZ (w.alloc (.cells #[.int .i64 x0,.int .i64 x1,.string x2,.string x3] 63));obtain⟨b2,ba⟩:=eZ (w1.heap.size);obtain⟨w2,bw⟩:=eZ (w1.alloc (.cells #[.int .i64 x0,.int .i64 x1,.string x2,.string x3] 63));have B1:=bAl be;have B2:=bAl bw;have i1:=iNw be ao;have i2:=iNw bw ba;have i1':=i1.of (B2.block _ i1.lt);have HB:=aA (B1.trans (B2.mono B1.size));have e0:w2.cell? ⟨b1,0,none⟩=some (.int .i64 x0):=i1'.c rfl;have f0:w2.cell? ⟨b2,0,none⟩=some (.int .i64 x0):=i2.c rfl;have e1:w2.cell? ⟨b1,1,none⟩=some (.int .i64 x1):=i1'.c rfl;have f1:w2.cell? ⟨b2,1,none⟩=some (.int .i64 x1):=i2.c rfl;have e2:w2.cell? ⟨b1,2,none⟩=some (.string x2):=i1'.c rfl;have f2:w2.cell? ⟨b2,2,none⟩=some (.string x2):=i2.c rfl;have e3:w2.cell? ⟨b1,3,none⟩=some (.string x3):=i1'.c rfl;have f3:w2.cell? ⟨b2,3,none⟩=some (.string x3):=i2.c rfl;clear i1 i2 i1' B1 B2;go_enter Tryz.func37,Tryz.ntmps37;go_wp2;refine bodyPost_ret (v:=.bool true) (by simp[results,Tryz.results37,go_sem]) rfl ?_;exact⟨rfl,HB.out⟩
theorem aKU{w:World}{u:Value}{l:List TO}(h:yO.Sl w u l)(hl:0<l.length):∃g o c,u=.slice (some ⟨g,o,none⟩) l.length c∧g<w.heap.size∧∀(w':World) (i:Nat),(w'.heap[g]?=w.heap[g]?)→i<l.length→w'.cell? ⟨g,o+i*4,none⟩=some (.int .i64 (l.getD i yO.z).1)∧w'.cell? ⟨g,o+i*4+1,none⟩=some (.int .i64 (l.getD i yO.z).2.1)∧w'.cell? ⟨g,o+i*4+2,none⟩=some (.string (l.getD i yO.z).2.2.1)∧w'.cell? ⟨g,o+i*4+3,none⟩=some (.string (l.getD i yO.z).2.2.2):=by
 obtain⟨g,o,c,e,hg,hc⟩:=h.at hl;refine⟨g,o,c,e,hg,fun w' i he hi=>?_⟩;have hw:∀k,w'.cell? ⟨g,k,none⟩=w.cell? ⟨g,k,none⟩:=fun k=>by simp[World.cell?,he]
 refine⟨?_,?_,?_,?_⟩
 ·rw[hw];exact hc i 0 hi (by decide)
 ·rw[hw];exact hc i 1 hi (by decide)
 ·rw[hw];exact hc i 2 hi (by decide)
 ·rw[hw];exact hc i 3 hi (by decide)
theorem tZ(v v':Value)(l:List TO)(w:World)(hv:yO.Sl w v l)(nw:yO.Sl w v' l)(hn:l.length≤4294967296):Calls Tryz.prog 12 #[v,v'] w fun e w'=>e=.returned (.bool true)∧Bl w w':=by
 obtain⟨va,vc,iq⟩:=hv.len;obtain⟨ua,uc,LC⟩:=nw.len;have HV:=aA (aI hv nw);subst iq;subst LC;clear hv nw;have MV:((l.length:Int) !=(l.length:Int))=false:=by simp
 go_enter Tryz.func12,Tryz.ntmps12
 go_wp2
 go_loopw [5] (fun i wr=>∃k:Nat,k≤l.length∧i=.int .i64 k∧Bl w wr) (fun i _=>l.length -(intOf i).toNat)
 case atStart=>exact⟨0,by omega,rfl,bQ _ _⟩
 case round=>
  obtain⟨k,hk,rfl,hb⟩:=hrel;by_cases ai:k<l.length
  ·obtain⟨g,o,cc,iq,qo,aa⟩:=aKU HV.out.1 (by omega)
   simp only[Value.slice.injEq,true_and]at iq;obtain⟨rfl,rfl⟩:=iq;obtain⟨g',o',cc',Ej,Bh,eo⟩:=aKU HV.out.2 (by omega);simp only[Value.slice.injEq,true_and]at Ej;obtain⟨rfl,rfl⟩:=Ej;have lm:(k:Int) <(l.length:Int):=by omega
   have ha:=aa wr k (hb.block g qo) ai;have hc:=eo wr k (hb.block g' Bh) ai;have HA:Hid (∀wq,Bl wr wq→wq.cell? ⟨g,o+k*4,none⟩=some (.int .i64 (l.getD k yO.z).1)∧wq.cell? ⟨g,o+k*4+1,none⟩=some (.int .i64 (l.getD k yO.z).2.1)∧wq.cell? ⟨g,o+k*4+2,none⟩=some (.string (l.getD k yO.z).2.2.1)∧wq.cell? ⟨g,o+k*4+3,none⟩=some (.string (l.getD k yO.z).2.2.2)∧wq.cell? ⟨g',o'+k*4,none⟩=some (.int .i64 (l.getD k yO.z).1)∧wq.cell? ⟨g',o'+k*4+1,none⟩=some (.int .i64 (l.getD k yO.z).2.1)∧wq.cell? ⟨g',o'+k*4+2,none⟩=some (.string (l.getD k yO.z).2.2.1)∧wq.cell? ⟨g',o'+k*4+3,none⟩=some (.string (l.getD k yO.z).2.2.2)):=fun wq hq=>by
    have mi:=hb.trans (hq.mono hb.size);have h1:=aa wq k (mi.block g qo) ai;have h2:=eo wq k (mi.block g' Bh) ai;exact⟨h1.1,h1.2.1,h1.2.2.1,h1.2.2.2,h2.1,h2.2.1,h2.2.2.1,h2.2.2.2⟩
   generalize l.getD k yO.z=op at *;obtain⟨x0,x1,x2,x3⟩:=op;simp only at ha hc HA;obtain⟨p0,p1,p2,p3⟩:=ha;obtain⟨q0,q1,q2,q3⟩:=hc;clear aa eo;go_wp2;go_region_held3 (fun W=>W.cell? ⟨g,o+k*4,none⟩=some (.int .i64 x0)∧W.cell? ⟨g,o+k*4+1,none⟩=some (.int .i64 x1)∧W.cell? ⟨g,o+k*4+2,none⟩=some (.string x2)∧W.cell? ⟨g,o+k*4+3,none⟩=some (.string x3)∧W.cell? ⟨g',o'+k*4,none⟩=some (.int .i64 x0)∧W.cell? ⟨g',o'+k*4+1,none⟩=some (.int .i64 x1)∧W.cell? ⟨g',o'+k*4+2,none⟩=some (.string x2)∧W.cell? ⟨g',o'+k*4+3,none⟩=some (.string x3)) (first | assumption | go_keep | exact⟨p0,p1,p2,p3,q0,q1,q2,q3⟩ | exact HA.out _ (bQ _ _).drew | exact HA.out _ hB) ((go_at_call 37;refine(uA x0 x1 x2 x3 _).mono ?_;rintro e w2 ⟨rfl,c9⟩;have hB:Bl wr w2:=(bQ wr.heap.size wr).drew.trans c9));go_wp2;go_roundw
   case rel=>exact⟨k+1,by omega,by go_num,hb.trans (hB.mono hb.size)⟩
   case measure=>simp[intOf];omega
  ·have lm:¬(k:Int) <(l.length:Int):=by omega
   go_wp2
   refine bodyPost_ret (v:=.bool true) (by simp[results,Tryz.results12,go_sem]) rfl ?_;exact⟨rfl,hb⟩
def sN(k:Int)(j:Nat):TO:=((k+4*(j:Int)),(k+4*(j:Int)+1),(mkT (k+4*(j:Int)+1+1).toNat),(mkT (k+4*(j:Int)+1+1+1).toNat))
def eJ(k:Int)(m:Nat):List TO:=(List.range m).map fun j=>sN k j
def dI(k:Int)(l:List TO)(j:Nat):List TO:=eJ k j++l.drop j
theorem lZ(k:Int)(m:Nat):(eJ k m).length=m:=by simp[eJ]
theorem uK(k:Int)(l:List TO)(j:Nat)(h:j≤l.length):(dI k l j).length=l.length:=by simp[dI,lZ];omega
theorem sP(k:Int)(l:List TO):dI k l 0=l:=by simp[dI,eJ]
theorem uJ(k:Int)(l:List TO):dI k l l.length=eJ k l.length:=by simp[dI]
theorem sO(k:Int)(l:List TO)(j:Nat)(h:j<l.length):(dI k l j).set j (sN k j)=dI k l (j+1):=by
 unfold dI;have hl:=lZ k j;rw[List.set_append_right _ _ (by omega),hl,Nat.sub_self,List.drop_eq_getElem_cons h,List.set_cons_zero];have:eJ k (j+1)=eJ k j++[sN k j]:=by unfold eJ;rw[List.range_succ,List.map_append];rfl
 rw[this,List.append_assoc];rfl
theorem qH(lo hi:Nat)(v:Value)(l:List TO)(k:Int)(w:World)(hv:fN yO lo hi w v l)(hk:1≤k)(hn:k+4*(l.length:Int)≤900000000):Calls Tryz.prog 13 #[v,.int .i64 k] w fun e w'=>e=.returned (.int .i64 (k+4*(l.length:Int)))∧fN yO lo hi w' v (eJ k l.length)∧Upd lo hi w w':=by
 obtain⟨va,vc,iq⟩:=hv.len;subst iq;have HV:=aA hv;clear hv;go_enter Tryz.func13,Tryz.ntmps13;go_wp2;go_loopw [1,5] (fun q i wr=>∃j:Nat,j≤l.length∧i=.int .i64 j∧q=.int .i64 (k+4*(j:Int))∧fN yO lo hi wr (.slice va l.length vc) (dI k l j)∧Frm (fun b=>lo≤b∧b<hi) w wr) (fun _ i _=>l.length -(intOf i).toNat)
 case atStart=>exact⟨0,by omega,rfl,by simp,by rw[sP];exact HV.out,Frm.refl _ _⟩
 case round=>
  obtain⟨j,hj,rfl,rfl,hO,hF⟩:=hrel;have fe:=uK k l j hj;by_cases ai:j<l.length
  ·have qn:=aA (sO k l j ai)
   rcases hO with⟨e,e2⟩ | ⟨g,cap,pre,post,e,g9,mj,I0⟩
   ·rw[e2]at fe;simp at fe;omega
   rw[fe]at e;simp only[Value.slice.injEq,true_and]at e;obtain⟨rfl,rfl⟩:=e;generalize dI k l j=M at *;have E9:j<M.length:=by omega
   have dq:(j:Int) <(l.length:Int):=by omega
   have fu:k+4*(j:Int)+4≤900000000:=by omega
   obtain⟨⟨y0,y1,y2,y3⟩,rh⟩:∃x,M.getD j yO.z=x:=⟨_,rfl⟩;have Em:=aA rh;obtain⟨o,ho⟩:=eZ (pre.length*yO.n);have HO:=aA ho;rw[ho];have CC:Hid (∀(W:World) (N:List TO),IsC W g (yO.row (pre++N++post)) 63→N.length=M.length→W.cell? ⟨g,o+j*4,none⟩=some (.int .i64 (N.getD j yO.z).1)∧W.cell? ⟨g,o+j*4+1,none⟩=some (.int .i64 (N.getD j yO.z).2.1)∧W.cell? ⟨g,o+j*4+2,none⟩=some (.string (N.getD j yO.z).2.2.1)∧W.cell? ⟨g,o+j*4+3,none⟩=some (.string (N.getD j yO.z).2.2.2)):=fun W N hI hN=>by
    rw[←ho];refine⟨?_,?_,?_,?_⟩
    ·exact yO.mid hI (j:=j) (f:=0) (by omega) (by decide)
    ·exact yO.mid hI (j:=j) (f:=1) (by omega) (by decide)
    ·exact yO.mid hI (j:=j) (f:=2) (by omega) (by decide)
    ·exact yO.mid hI (j:=j) (f:=3) (by omega) (by decide)
   have lr:Hid (∀(W:World) (N:List TO) (f:Nat) (vv:Value) (a':TO),IsC W g (yO.row (pre++N++post)) 63→N.length=M.length→f<4→yO.cell a'=(yO.cell (N.getD j yO.z)).set f vv→IsC (W.setCell ⟨g,o+j*4+f,none⟩ vv) g (yO.row (pre++N.set j a'++post)) 63):=fun W N f vv a' hI hN hf hc=>by
    have:=hI.set (o+j*4+f) vv
    have e:o+j*4+f=(pre.length+j)*yO.n+f:=by rw[←ho,Nat.add_mul];rfl
    rw[e]at this ⊢;rw[yO.set1 (pre++N++post) (i:=pre.length+j) (by simp;omega) hf vv a' (by rw[wW pre N post j (by omega)];exact hc),aCV pre N post j (by omega)]at this;exact this
   clear ho;have G0:M.getD j yO.z=(y0,y1,y2,y3):=rh;have FR0:=hF;clear rh hF;have c0:wr.cell? ⟨g,o+j*4,none⟩=some (.int .i64 y0):=by have:=(CC.out wr _ I0 (by simp)).1;rw[G0]at this;exact this
   have z0:=I0.frozen (o+j*4);have I1:=lr.out wr _ 0 (.int .i64 (k+4*(j:Int))) ((k+4*(j:Int)),y1,y2,y3) I0 (by simp) (by omega) (by rw[G0];rfl);simp only[Nat.add_zero]at I1;have FR1:=FR0.trans (Frm.set (S:=fun b=>lo≤b∧b<hi) wr (p:=⟨g,o+j*4,none⟩) ⟨g9,mj⟩ (.int .i64 (k+4*(j:Int))));obtain⟨W1,z8⟩:=eZ (wr.setCell ⟨g,o+j*4,none⟩ (.int .i64 (k+4*(j:Int))));rw[z8]at I1 FR1;have G1:(M.set j ((k+4*(j:Int)),y1,y2,y3)).getD j yO.z=((k+4*(j:Int)),y1,y2,y3):=by simp[E9]
   have c1:W1.cell? ⟨g,o+j*4+1,none⟩=some (.int .i64 y1):=by have:=(CC.out W1 _ I1 (by simp)).2.1;rw[G1]at this;exact this
   have z1:=I1.frozen (o+j*4+1);have I2:=lr.out W1 _ 1 (.int .i64 (k+4*(j:Int)+1)) ((k+4*(j:Int)),(k+4*(j:Int)+1),y2,y3) I1 (by simp) (by omega) (by rw[G1];rfl);have FR2:=FR1.trans (Frm.set (S:=fun b=>lo≤b∧b<hi) W1 (p:=⟨g,o+j*4+1,none⟩) ⟨g9,mj⟩ (.int .i64 (k+4*(j:Int)+1)));obtain⟨W2,uz⟩:=eZ (W1.setCell ⟨g,o+j*4+1,none⟩ (.int .i64 (k+4*(j:Int)+1)));rw[uz]at I2 FR2;rw[List.set_set]at I2;have G2:(M.set j ((k+4*(j:Int)),(k+4*(j:Int)+1),y2,y3)).getD j yO.z=((k+4*(j:Int)),(k+4*(j:Int)+1),y2,y3):=by simp[E9]
   have c2:W2.cell? ⟨g,o+j*4+2,none⟩=some (.string y2):=by have:=(CC.out W2 _ I2 (by simp)).2.2.1;rw[G2]at this;exact this
   have z2:=I2.frozen (o+j*4+2);go_wp2_with fail;refine(nX (k+4*(j:Int)+1+1) W2 (by omega) (by omega)).mono ?_;rintro e V2 ⟨rfl,ba⟩;have J2:=I2.of (ba.block _ I2.lt);have FV2:=FR2.trans (Frm.of_below ba);clear c2 z2;have c2:V2.cell? ⟨g,o+j*4+2,none⟩=some (.string y2):=by have:=(CC.out V2 _ J2 (by simp)).2.2.1;rw[G2]at this;exact this
   have z2:=J2.frozen (o+j*4+2);have I3:=lr.out V2 _ 2 (.string (mkT (k+4*(j:Int)+1+1).toNat)) ((k+4*(j:Int)),(k+4*(j:Int)+1),(mkT (k+4*(j:Int)+1+1).toNat),y3) J2 (by simp) (by omega) (by rw[G2];rfl);have FR3:=FV2.trans (Frm.set (S:=fun b=>lo≤b∧b<hi) V2 (p:=⟨g,o+j*4+2,none⟩) ⟨g9,mj⟩ (.string (mkT (k+4*(j:Int)+1+1).toNat)));obtain⟨W3,yy⟩:=eZ (V2.setCell ⟨g,o+j*4+2,none⟩ (.string (mkT (k+4*(j:Int)+1+1).toNat)));rw[yy]at I3 FR3;rw[List.set_set]at I3;have G3:(M.set j ((k+4*(j:Int)),(k+4*(j:Int)+1),(mkT (k+4*(j:Int)+1+1).toNat),y3)).getD j yO.z=((k+4*(j:Int)),(k+4*(j:Int)+1),(mkT (k+4*(j:Int)+1+1).toNat),y3):=by simp[E9]
   have c3:W3.cell? ⟨g,o+j*4+3,none⟩=some (.string y3):=by have:=(CC.out W3 _ I3 (by simp)).2.2.2;rw[G3]at this;exact this
   have z3:=I3.frozen (o+j*4+3);go_wp2_with fail;refine(nX (k+4*(j:Int)+1+1+1) W3 (by omega) (by omega)).mono ?_;rintro e V3 ⟨rfl,ce⟩;have J3:=I3.of (ce.block _ I3.lt);have FV3:=FR3.trans (Frm.of_below ce);clear c3 z3;have c3:V3.cell? ⟨g,o+j*4+3,none⟩=some (.string y3):=by have:=(CC.out V3 _ J3 (by simp)).2.2.2;rw[G3]at this;exact this
   have z3:=J3.frozen (o+j*4+3);have I4:=lr.out V3 _ 3 (.string (mkT (k+4*(j:Int)+1+1+1).toNat)) ((k+4*(j:Int)),(k+4*(j:Int)+1),(mkT (k+4*(j:Int)+1+1).toNat),(mkT (k+4*(j:Int)+1+1+1).toNat)) J3 (by simp) (by omega) (by rw[G3];rfl);have FR4:=FV3.trans (Frm.set (S:=fun b=>lo≤b∧b<hi) V3 (p:=⟨g,o+j*4+3,none⟩) ⟨g9,mj⟩ (.string (mkT (k+4*(j:Int)+1+1+1).toNat)));obtain⟨W4,Fk⟩:=eZ (V3.setCell ⟨g,o+j*4+3,none⟩ (.string (mkT (k+4*(j:Int)+1+1+1).toNat)));rw[Fk]at I4 FR4;rw[List.set_set]at I4;have G4:(M.set j ((k+4*(j:Int)),(k+4*(j:Int)+1),(mkT (k+4*(j:Int)+1+1).toNat),(mkT (k+4*(j:Int)+1+1+1).toNat))).getD j yO.z=((k+4*(j:Int)),(k+4*(j:Int)+1),(mkT (k+4*(j:Int)+1+1).toNat),(mkT (k+4*(j:Int)+1+1+1).toNat)):=by simp[E9]
   have HN:Hid (fN yO lo hi W4 (.slice (some ⟨g,o,none⟩) l.length vc) (dI k l (j+1))):=by
    rw[←qn.out];refine .inr ⟨g,vc,pre,post,?_,g9,mj,I4⟩;rw[List.length_set,fe];show Value.slice (some ⟨g,o,none⟩) _ _=Value.slice (some ⟨g,pre.length*yO.n,none⟩) _ _
    rw[HO.out]
   clear CC lr Em G0 G1 G2 G3 G4 I0 I1 I2 I3 I4;go_wp2;go_roundw
   case rel=>exact⟨j+1,by omega,by go_num,by go_num,HN.out,FR4⟩
   case measure=>simp[intOf];omega
  ·obtain rfl:j=l.length:=by omega
   rw[uJ]at hO;have HN:=aA hO;have dq:¬((l.length:Nat):Int) <((l.length:Nat):Int):=by omega
   clear hO;go_wp2;refine bodyPost_ret (v:=.int .i64 (k+4*(l.length:Int))) (by simp[results,Tryz.results13,go_sem]) rfl ?_;exact⟨rfl,HN.out,⟨hF.os,hF.tape,hF.output,hF.size,fun b hb hn=>hF.block b hb (by omega)⟩⟩
end Go.Proofs.YtaahkgkdpnnhhaaGreat
namespace Go.Proofs.YtaahkgkdpnnhhaaGreat
open Go.RowKit Go.Shelf Fo
variable{n tree:Int}{ops:List TO}{t:Nat}{w w':World}
def tsC(n:Int)(ops:List TO)(tree:Int):Int:=if trC n ops=0 then(match atT (trF n ops) tree with | none=>8 | some _=>0)else trC n ops
def tsV(n:Int)(ops:List TO)(tree:Int):List VW:=if trC n ops=0 then(match atT (trF n ops) tree with | none=>[] | some t=>shp (trF n ops) (aB (trF n ops) t))else []
theorem aIB(tree:Int)(h:trC n ops≠0):tsC n ops tree=trC n ops∧tsV n ops tree=[]:=by
 unfold tsC tsV;rw[if_neg h,if_neg h];exact⟨rfl,rfl⟩
theorem aDB(h:trC n ops=0)(ha:atT (trF n ops) tree=none):tsC n ops tree=8∧tsV n ops tree=[]:=by
 unfold tsC tsV;rw[if_pos h,if_pos h,ha];exact⟨rfl,rfl⟩
theorem xM(h:trC n ops=0)(ha:atT (trF n ops) tree=some t):tsC n ops tree=0∧tsV n ops tree=shp (trF n ops) (aB (trF n ops) t):=by
 unfold tsC tsV;rw[if_pos h,if_pos h,ha];exact⟨rfl,rfl⟩
def TsP(w:World)(n:Int)(ops:List TO)(tree:Int)(e:Ending)(w':World):Prop:=∃u,e=.returned (.tuple #[u,.int .i64 (tsC n ops tree)])∧yW.Own w.heap.size w' u (tsV n ops tree)∧Bl w w'
theorem TsP.bad(tree:Int)(h:trC n ops≠0)(hb:Bl w w'):TsP w n ops tree (.returned (.tuple #[.slice none 0 0,.int .i64 (trC n ops)])) w':=by
 obtain⟨h1,h2⟩:=aIB tree h;exact⟨_,by rw[h1],by rw[h2];exact Ely.Own.nil _ _,hb⟩
theorem TsP.none(h:trC n ops=0)(ha:atT (trF n ops) tree=none)(hb:Bl w w'):TsP w n ops tree (.returned (.tuple #[.slice none 0 0,.int .i64 8])) w':=by
 obtain⟨h1,h2⟩:=aDB h ha;exact⟨_,by rw[h1],by rw[h2];exact Ely.Own.nil _ _,hb⟩
theorem zK{f:fZ}(hI:Inv f)(ht:t<f.roots.length):2≤aB f t∧aB f t<512:=by
 obtain⟨h,hk,_⟩:=hI.ok t ht;have:∃d,f.nodes (aB f t)=some d:=by
  cases h with
  | zero=>obtain⟨es,q,_⟩:=hk;exact⟨_,q⟩
  | succ h=>obtain⟨es,q,_⟩:=hk;exact⟨_,q⟩
 obtain⟨d,hd⟩:=this;have h1:=hI.ic.ge2 hd;have h2:=hI.ic.lt hd;have h3:=hI.ic.n512;omega
theorem nJ(n:Int)(ops:List TO)(v:Value)(tree:Int)(w:World)(hv:yO.Sl w v ops)(hl:ops.length≤1048576):Calls Tryz.prog 17 #[.int .i64 n,v,.int .i64 tree] w (TsP w n ops tree):=by
 go_enter Tryz.func17,Tryz.ntmps17
 go_wp2_with fail
 refine(aJJ n ops v w hv hl).mono ?_;intro e w1 hP;obtain⟨p,u,rfl,_,hb,kg⟩:=hP.all;clear hP;by_cases hc:trC n ops=0
 ·obtain⟨P,ρ,A,J,rfl,hS,hr⟩:=kg hc
  have hk:=aBT hc;have hI:=hk.inv;have HN:=aA fun(w':World) (ha:atT (trF n ops) tree=none) hb=>TsP.none (w:=w) (w':=w') hc ha hb;have HT:=aA fun(t:Nat) (ha:atT (trF n ops) tree=some t)=>xM hc ha;obtain⟨c,CS⟩:=eZ (trC n ops);rw[CS]at hc;rw[CS];subst hc;generalize trF n ops=f at *;have hz:=hI.sz;clear CS kg hk hr;go_wp2_with fail;refine(aEM w1 ρ P A f J tree hS hI hz).mono ?_;rintro e w2 ⟨rfl,ba⟩;have ax:=hS.below ba;have ff:=hb.trans (ba.mono hb.size);clear hS ba hb;cases ha:atT f tree with
  | none=>
   rw[vO ha];have HF:=aA (HN.out w2 ha ff);clear ax ff HN HT hI hz;go_wp2;refine bodyPost_ret (v:=.tuple #[.slice none 0 0,.int .i64 8]) (by simp[results,Tryz.results17,go_sem]) rfl ?_;exact HF.out
  | some t=>
   rw[vP ha];obtain⟨ht,_⟩:=mC ha;obtain⟨h,hk,GU⟩:=hI.ok t ht;obtain⟨q1,q2,q3⟩:=aBK hI.ic hk GU;have mj:=zK hI ht;have av:¬((aB f t:Int)=0):=by omega
   obtain⟨t1,t2⟩:=HT.out t ha;rw[q1]at t2;obtain⟨_,_,_,hR,_⟩:=id ax;have hC:=mV hI.ic hz ρ P A J w2.heap.size (fun k hk=>Nat.eq_zero_of_not_pos fun q=>absurd (hR.own k (by omega)) (by omega)) h (aB f t) none none 0 w2 none 0 [] hk ax (nR _) (Ely.Own.nil _ _) (by simp;omega) (Int.le_refl _) (by omega);simp only[List.length_nil,List.nil_append]at hC;have HC:=aA hC;have FP:=aA (aI t1 t2);clear hC t1 t2 hR ax hI hz HT HN hk q1;generalize cG f h (aB f t) 0=V at *;generalize aB f t=r at *;go_wp2_with fail;refine HC.out.mono ?_;rintro e w3 ⟨⟨u3,rfl,wy⟩,bu⟩;have HO:=aA (wy.base ff.size);have HB:=aA (ff.trans ((bu.below (nR _) fun k e=>e.1).mono ff.size));clear wy bu HC;go_wp2;refine bodyPost_ret (v:=.tuple #[u3,.int .i64 0]) (by simp[results,Tryz.results17,go_sem]) rfl ?_;exact⟨u3,by rw[FP.out.1],by rw[FP.out.2];exact HO.out,HB.out⟩
 ·have HB:=aA (TsP.bad tree hc hb)
  obtain⟨c,CS⟩:=eZ (trC n ops);rw[CS]at hc HB;rw[CS];clear CS kg;go_wp2;refine bodyPost_ret (v:=.tuple #[.slice none 0 0,.int .i64 c]) (by simp[results,Tryz.results17,go_sem]) rfl ?_;exact HB.out
theorem oF(n:Int)(ops:List TO)(v:Value)(tree:Int)(w:World)(hv:yO.Sl w v ops)(hl:ops.length≤1048576):Calls Tryz.prog 16 #[.int .i64 n,v,.int .i64 tree] w (TsP w n ops tree):=by
 obtain⟨c,hc⟩:=eZ (trC n ops);have HR:=aA (aEC n ops v w hv hl);have LG:=aA (fun e w' (h:RuP w n ops e w')=>h.all);have Oe:=aA (fun(h:trC n ops≠0) (w':World) (hb:Bl w w')=>TsP.bad tree h hb);have HC:=aA hc;rw[hc]at LG Oe;clear hv hc;go_enter Tryz.func16,Tryz.ntmps16;go_upto_region 1 with fail
 refine wp_region_list ?_
 (iterate 2 (refine wpList_plain rfl (fun K2 ae=>?_);go_simp;refine ae _ _ ?_;clear ae K2))
 refine wpList_plain rfl (fun K2 ae=>?_);go_simp;refine HR.out.mono ?_;intro e w1 hP;obtain⟨X,u,rfl,TV,db,_,ao,ie⟩:=LG.out e w1 hP;refine ae _ _ ?_;clear ae K2 hP LG HR;obtain⟨B8,VA⟩:=eZ (w1.heap.size);obtain⟨w2,bw⟩:=eZ (w1.alloc (.cells #[.int .i64 0,.slice none 0 0,.slice none 0 0,.int .i64 0,.int .i64 0,.slice none 0 0,.slice none 0 0] 57));have ba:=bAl bw;have i8:=iNw bw VA
 (iterate 5 (refine wpList_plain rfl (fun K2 ae=>?_);go_simp;refine ae _ _ ?_;clear ae K2))
 refine wpList_plain rfl (fun K2 ae=>?_);refine aL _ _ _ rfl B8 i8 rfl rfl TV (by rw[TV];kernel_rfl) db fun w3 j8 jF=>?_;refine ae _ _ ?_;clear ae K2;have BV:Bl w1 w3:=ba.trans (jF.below ba.size fun k e=>by omega);have oz:=ao.trans (BV.mono ao.size);have HJ:=aA j8;clear jF j8 i8 ba bw
 (iterate 2 (refine wpList_plain rfl (fun K2 ae=>?_);go_simp;refine ae _ _ ?_;clear ae K2))
 refine wpList_nil ?_;by_cases h0:c=0
 ·subst h0
  obtain⟨A,hX,TL,jf⟩:=ie rfl;have jo:Sp w3 B8 A (trF n ops):=⟨by rw[←hX];exact HJ.out,TL.below BV⟩;have hI:=(aBT HC.out).inv;have HN:=aA fun(w':World) (ha:atT (trF n ops) tree=none) hb=>TsP.none (w:=w) (w':=w') HC.out ha hb;have HT:=aA fun(t:Nat) (ha:atT (trF n ops) tree=some t)=>xM HC.out ha;generalize trF n ops=f at *;have ju:=hI.r16;clear hX TL ie;go_wp2_with fail;refine(iV w3 B8 A jo (by omega) tree).mono ?_;rintro e w4 ⟨rfl,rfl⟩;cases ha:atT f tree with
  | none=>
   have hp:plZ f tree=-1:=by unfold plZ;rw[ha]
   rw[hp];have HF:=aA (HN.out w4 ha oz);clear jo oz HN HT hI;go_wp2;refine bodyPost_ret (v:=.tuple #[.slice none 0 0,.int .i64 8]) (by simp[results,Tryz.results16,go_sem]) rfl ?_;exact HF.out
  | some t=>
   have hp:plZ f tree=t:=by unfold plZ;rw[ha]
   rw[hp];obtain⟨ht,_⟩:=mC ha;obtain⟨h,hk,GU⟩:=hI.ok t ht;obtain⟨q1,q2,q3⟩:=aBK hI.ic hk GU;obtain⟨t1,t2⟩:=HT.out t ha;rw[q1]at t2;have h8:=hI.ic.n8;have LM:=aA fun(W:World) (hW:Sp W B8 A f)=>fS hI.ic (fun x=>by have:=hI.counts x;omega) (fun b d hd=>by have:=hI.ent hd;omega) W B8 A hW (by omega);have Sh:=aA fun(W:World) (gc cc:Nat) (hW:Sp W B8 A f) (nk:xN W gc f)=>sF hI.ic B8 A gc cc h (aB f t) none none 0 W hk (by omega) (Int.le_refl _) (by omega) hW nk;have FP:=aA (aI t1 t2);have ak:Sp w4.drew B8 A f:=jo.below (bQ _ _).drew;have Rx:(t:Int) <(f.roots.length:Int):=by omega
   have At:∀W,Sp W B8 A f→W.cell? ⟨B8,2,none⟩=some (.slice (some ⟨A.gr,0,none⟩) f.roots.length (f.roots.length+A.rj.length))∧W.cell? ⟨A.gr,t*2+1,none⟩=some (.int .i64 (aB f t)):=fun W hW=>⟨hW.cells.2.2.1,by
    have:=(hW.v.root ht).2
    rw[this];have mj:=zK hI ht;unfold aB at mj ⊢;congr 2;omega⟩
   have Md:∀W u,y64.Own w4.heap.size W u f.cur→∃gc cc,u=.slice (some ⟨gc,0,none⟩) f.cur.length cc∧xN W gc f:=fun W u hu=>by
    obtain⟨a,junk,rfl,hr,_⟩:=hu;cases a with
    | none=>have:=(hr.nil rfl).1;rw[this]at h8;simp at h8
    | some g=>exact⟨g,_,rfl,(hr.arr g rfl).lt,fun i hi=>jE (hr.arr g rfl) hi⟩
   clear hk q1 t1 t2 HT HN GU;go_upto_region 7 with fail
   refine pW (fun W=>Sp W B8 A f) 10 (by kernel_rfl) ?_;refine dD (i:=1) 27 (.pointer (some ⟨B8,2,none⟩)) (by kernel_rfl) (by kernel_rfl) rfl (by kernel_rfl) (by kernel_rfl) (by kernel_rfl) (fun _ _ _ h=>h) rfl rfl ak (fun w' hw=>by go_simp;try rfl) ?_;simp only[Act.put,sB,sZ,sS];refine dD (i:=2) 28 (.slice (some ⟨A.gr,0,none⟩) f.roots.length (f.roots.length+A.rj.length)) (by kernel_rfl) (by kernel_rfl) rfl (by kernel_rfl) (by kernel_rfl) (by kernel_rfl) (fun _ _ _ h=>h) rfl rfl ak (fun w' hw=>by have m:=At w' hw;obtain⟨m1,m2⟩:=m;go_simp;try rfl) ?_;simp only[Act.put,sB,sZ,sS];refine dD (i:=3) 29 (.int .i64 t) (by kernel_rfl) (by kernel_rfl) rfl (by kernel_rfl) (by kernel_rfl) (by kernel_rfl) (fun _ _ _ h=>h) rfl rfl ak (fun w' hw=>by go_simp;try rfl) ?_;simp only[Act.put,sB,sZ,sS];refine dD (i:=4) 30 (.pointer (some ⟨A.gr,t*2,none⟩)) (by kernel_rfl) (by kernel_rfl) rfl (by kernel_rfl) (by kernel_rfl) (by kernel_rfl) (fun _ _ _ h=>h) rfl rfl ak (fun w' hw=>by go_simp;try rfl) ?_;simp only[Act.put,sB,sZ,sS];refine dD (i:=5) 31 (.pointer (some ⟨A.gr,t*2+1,none⟩)) (by kernel_rfl) (by kernel_rfl) rfl (by kernel_rfl) (by kernel_rfl) (by kernel_rfl) (fun _ _ _ h=>h) rfl rfl ak (fun w' hw=>by go_simp;try rfl) ?_;simp only[Act.put,sB,sZ,sS];refine dD (i:=6) 32 (.int .i64 (aB f t)) (by kernel_rfl) (by kernel_rfl) rfl (by kernel_rfl) (by kernel_rfl) (by kernel_rfl) (fun _ _ _ h=>h) rfl rfl ak (fun w' hw=>by have m:=At w' hw;obtain⟨m1,m2⟩:=m;go_simp;try rfl) ?_;simp only[Act.put,sB,sZ,sS];refine fW (i:=0) (by kernel_rfl) rfl rfl (fun K2 ae=>?_);go_simp;refine(LM.out w4.drew ak).mono ?_;rintro e w5 ⟨u0,rfl,S8,et⟩;have ly:=ak.below et;refine ae _ _ (fun _=>ly) ?_;clear ae K2;obtain⟨gc,cc,rfl,EN⟩:=Md w5 u0 S8;refine fW (i:=7) (by kernel_rfl) rfl rfl (fun K2 ae=>?_);go_simp;refine(Sh.out w5 gc cc ly EN).mono ?_;rintro e w6 ⟨u1,rfl,Do,kj⟩;have vm:=ly.below kj;refine ae _ _ (fun _=>vm) ?_;clear ae K2;have Iw:Bl w w5:=(oz.trans ((bQ _ w4).drew.mono oz.size)).trans (et.mono oz.size);have HF:=aA (aI (Do.base Iw.size) (Iw.trans (kj.mono Iw.size)));refine dD (i:=8) 6 (u1) (by kernel_rfl) (by kernel_rfl) rfl (by kernel_rfl) (by kernel_rfl) (by kernel_rfl) (fun _ _ _ h=>h) rfl rfl vm (fun w' hw=>by go_simp;try rfl) ?_;simp only[Act.put,sB,sZ,sS];refine dD (i:=9) 7 (.int .i64 0) (by kernel_rfl) (by kernel_rfl) rfl (by kernel_rfl) (by kernel_rfl) (by kernel_rfl) (fun _ _ _ h=>h) rfl rfl vm (fun w' hw=>by go_simp;try rfl) ?_;simp only[Act.put,sB,sZ,sS];refine pV (by kernel_rfl) ?_ _;clear ak ly vm S8 Do At Md EN Sh LM;go_wp2;refine bodyPost_ret (v:=.tuple #[u1,.int .i64 0]) (by simp[results,Tryz.results16,go_sem]) rfl ?_;exact⟨u1,by rw[FP.out.1],by rw[FP.out.2];exact HF.out.1,HF.out.2⟩
 ·have HB:=aA (Oe.out h0 w3 oz)
  clear ie HJ Oe;go_wp2;refine bodyPost_ret (v:=.tuple #[.slice none 0 0,.int .i64 c]) (by simp[results,Tryz.results16,go_sem]) rfl ?_;exact HB.out
end Go.Proofs.YtaahkgkdpnnhhaaGreat
namespace Go.Proofs.YtaahkgkdpnnhhaaGreat
open Go.RowKit Fo
variable{l:List TO}{k:Nat}
theorem xL(x0 x1:Int)(x2 x3:ByteArray)(w:World):Calls Tryz.prog 35 #[.agg #[.int .i64 x0,.int .i64 x1,.string x2,.string x3]] w fun e w'=>e=.returned (.agg #[.int .i64 x0,.int .i64 x1,.string x2,.string x3])∧Bl w w':=by
 obtain⟨b1,ao⟩:=eZ (w.heap.size);obtain⟨w1,be⟩:=eZ (w.alloc (.cells #[.int .i64 x0,.int .i64 x1,.string x2,.string x3] 53));obtain⟨b2,ba⟩:=eZ (w1.heap.size);obtain⟨w2,bw⟩:=eZ (w1.alloc (.cells #[.int .i64 0,.int .i64 0,.string {data:=#[]},.string {data:=#[]}] 63));obtain⟨b3,ce⟩:=eZ (w2.heap.size);obtain⟨w3,dh⟩:=eZ (w2.alloc (.cells #[.int .i64 0,.int .i64 0,.string {data:=#[]},.string {data:=#[]}] 63));have B1:=bAl be;have B2:=bAl bw;have B3:=bAl dh;have i1:=iNw be ao;have i2:=iNw bw ba;have i3:=iNw dh ce;have i13:=(i1.of (B2.block _ i1.lt)).of (B3.block _ (lL i1.lt B2.size));have i23:=i2.of (B3.block _ i2.lt);have n13:b1≠b3:=by have:=i1.lt;have:=B2.size;omega
 have n23:b2≠b3:=by have:=i2.lt;omega
 have HB:=aA ((B1.trans (B2.mono B1.size)).trans (B3.mono (lT B1.size B2.size)));have AB:w.heap.size≤b2∧w.heap.size≤b3:=by have:=B1.size;have:=B2.size;omega
 have p0:w3.cell? ⟨b1,0,none⟩=some (.int .i64 x0):=i13.c rfl;have p1:w3.cell? ⟨b1,1,none⟩=some (.int .i64 x1):=i13.c rfl;have p2:w3.cell? ⟨b1,2,none⟩=some (.string x2):=i13.c rfl;have p3:w3.cell? ⟨b1,3,none⟩=some (.string x3):=i13.c rfl;have q0:w3.cell? ⟨b3,0,none⟩=some (.int .i64 0):=i3.c rfl;have q1:w3.cell? ⟨b3,1,none⟩=some (.int .i64 0):=i3.c rfl;have q2:w3.cell? ⟨b3,2,none⟩=some (.string {data:=#[]}):=i3.c rfl;have q3:w3.cell? ⟨b3,3,none⟩=some (.string {data:=#[]}):=i3.c rfl;have r0:w3.cell? ⟨b2,0,none⟩=some (.int .i64 0):=i23.c rfl;have r1:w3.cell? ⟨b2,1,none⟩=some (.int .i64 0):=i23.c rfl;have r2:w3.cell? ⟨b2,2,none⟩=some (.string {data:=#[]}):=i23.c rfl;have r3:w3.cell? ⟨b2,3,none⟩=some (.string {data:=#[]}):=i23.c rfl;have z0:=i3.frozen 0;have z1:=i3.frozen 1;have z2:=i3.frozen 2;have z3:=i3.frozen 3;have y0:=i23.frozen 0;have y1:=i23.frozen 1;have y2:=i23.frozen 2;have y3:=i23.frozen 3;clear i1 i2 i3 i13 i23 B1 B2 B3;go_enter Tryz.func35,Tryz.ntmps35;go_wp2;refine bodyPost_ret (v:=.agg #[.int .i64 x0,.int .i64 x1,.string x2,.string x3]) (by simp[results,Tryz.results35,go_sem,r0,r1,r2,r3,n23];try rfl) rfl ?_;refine⟨rfl,?_⟩;exact(((((((HB.out.setCell (p:=⟨b3,0,none⟩) AB.2 _).setCell (p:=⟨b3,1,none⟩) AB.2 _).setCell (p:=⟨b3,2,none⟩) AB.2 _).setCell (p:=⟨b3,3,none⟩) AB.2 _).setCell (p:=⟨b2,0,none⟩) AB.1 _).setCell (p:=⟨b2,1,none⟩) AB.1 _).setCell (p:=⟨b2,2,none⟩) AB.1 _).setCell (p:=⟨b2,3,none⟩) AB.1 _
def opP(l:List TO)(k:Nat):List TO:=l.take k++List.replicate (l.length-k) yO.z
theorem aJR(h:k≤l.length):(opP l k).length=l.length:=by unfold opP;simp;omega
theorem aJS(h:k<l.length):(opP l k).set k (l.getD k yO.z)=opP l (k+1):=by
 unfold opP;have hl:(l.take k).length=k:=by simp;omega
 rw[List.set_append_right _ _ (by omega),hl,Nat.sub_self,show l.length-k=(l.length -(k+1))+1 by omega,List.replicate_succ,List.set_cons_zero,cC l k yO.z h];simp
theorem gH(v:Value)(l:List TO)(w:World)(hv:RdL w v l)(hl:l.length≤1048576):Calls Tryz.prog 9 #[v] w fun e w'=>e=.returned (.slice (some ⟨w.heap.size,0,none⟩) l.length l.length)∧fN yO w.heap.size w'.heap.size w' (.slice (some ⟨w.heap.size,0,none⟩) l.length l.length) l∧Bl w w':=by
 obtain⟨va,vc,iq⟩:=hv.len;have HV:=aA (aI hv iq);subst iq;clear hv;obtain⟨g,hg⟩:=eZ (w.heap.size);obtain⟨w1,be⟩:=eZ (w.alloc (.cells (yO.row (List.replicate l.length yO.z)) 63));have OU:(Instr.makeSlice 27 (.int .i64 (l.length:Int)) (.int .i64 (l.length:Int))).run Tryz.prog w=.ok (.slice (some ⟨g,0,none⟩) l.length l.length) w1:=by rw[←be,←hg];exact yO.make l.length hl w
 have B1:=bAl be;have i1:=iNw be hg;have HI:=aA (show IsC w1 g (yO.row (opP l 0)) 63 by simpa [opP] using i1);have O5:Hid (∀(w':World),IsC w' g (yO.row l) 63→Bl w w'→(Ending.returned (.slice (some ⟨g,0,none⟩) l.length l.length)=.returned (.slice (some ⟨w.heap.size,0,none⟩) l.length l.length)∧fN yO w.heap.size w'.heap.size w' (.slice (some ⟨w.heap.size,0,none⟩) l.length l.length) l∧Bl w w')):=fun w' h1 h2=>by
  refine⟨by rw[hg],.inr ⟨g,l.length,[],[],by rw[hg];simp,Nat.le_of_eq hg,h1.lt,by rw[List.nil_append,List.append_nil];exact h1⟩,h2⟩
 obtain⟨PS,hPS⟩:∃PS:Ending→World→Prop,PS=fun e w'=>e=.returned (.slice (some ⟨w.heap.size,0,none⟩) l.length l.length)∧fN yO w.heap.size w'.heap.size w' (.slice (some ⟨w.heap.size,0,none⟩) l.length l.length) l∧Bl w w':=⟨_,rfl⟩;rw[←hPS];have O7:=aA hPS;clear hPS i1;go_enter Tryz.func9,Tryz.ntmps9;go_wp2;go_loopw [4] (fun i wr=>∃k:Nat,k≤l.length∧i=.int .i64 k∧IsC wr g (yO.row (opP l k)) 63∧Bl w wr) (fun i _=>l.length -(intOf i).toNat)
 case atStart=>exact⟨0,by omega,rfl,HI.out,B1⟩
 case round=>
  clear HI be OU;obtain⟨k,hk,rfl,hI,hb⟩:=hrel;by_cases ai:k<l.length
  ·obtain⟨gl,o,cc,iq,qo,aa⟩:=aKS HV.out.1 (by omega)
   simp only[Value.slice.injEq,true_and]at iq;obtain⟨rfl,rfl⟩:=iq;have lm:(k:Int) <(l.length:Int):=by omega
   obtain⟨p0,p1,p2,p3⟩:=aa wr k (hb.block gl qo) ai;have YN:=aJR hk;have qn:=aA (aJS ai);have ya:=fun(W:World) (hW:IsC W g (yO.row (opP l k)) 63) (f:Nat) (hf:f<4)=>(hW.cell (k*4+f)).trans (yO.at (opP l k) (i:=k) (j:=f) (by omega) hf);obtain⟨⟨t0,t1,t2,t3⟩,C7⟩:∃x,(opP l k).getD k yO.z=x:=⟨_,rfl⟩;obtain⟨⟨x0,x1,x2,x3⟩,Hn⟩:∃x,l.getD k yO.z=x:=⟨_,rfl⟩;rw[Hn]at qn p0 p1 p2 p3;simp only at p0 p1 p2 p3;have HI:=aA hI;clear aa;go_wp2_with fail;refine(xL x0 x1 x2 x3 wr).mono ?_;rintro e w2 ⟨rfl,ba⟩;have vq:=HI.out.of (ba.block _ HI.out.lt);have ff:=hb.trans (ba.mono hb.size);have y0:w2.cell? ⟨g,k*4,none⟩=some (.int .i64 t0):=by have:=ya w2 vq 0 (by omega);rw[show(yO.cell ((opP l k).getD k yO.z))=_ from congrArg yO.cell C7]at this;exact this
   have y1:w2.cell? ⟨g,k*4+1,none⟩=some (.int .i64 t1):=by have:=ya w2 vq 1 (by omega);rw[show(yO.cell ((opP l k).getD k yO.z))=_ from congrArg yO.cell C7]at this;exact this
   have y2:w2.cell? ⟨g,k*4+2,none⟩=some (.string t2):=by have:=ya w2 vq 2 (by omega);rw[show(yO.cell ((opP l k).getD k yO.z))=_ from congrArg yO.cell C7]at this;exact this
   have y3:w2.cell? ⟨g,k*4+3,none⟩=some (.string t3):=by have:=ya w2 vq 3 (by omega);rw[show(yO.cell ((opP l k).getD k yO.z))=_ from congrArg yO.cell C7]at this;exact this
   have z0:=vq.frozen (k*4);have z1:=vq.frozen (k*4+1);have z2:=vq.frozen (k*4+2);have z3:=vq.frozen (k*4+3);have hS:IsC ((((w2.setCell ⟨g,k*4,none⟩ (.int .i64 x0)).setCell ⟨g,k*4+1,none⟩ (.int .i64 x1)).setCell ⟨g,k*4+2,none⟩ (.string x2)).setCell ⟨g,k*4+3,none⟩ (.string x3)) g (yO.row (opP l (k+1))) 63:=by
    rw[←qn.out];exact yO.setAt vq (i:=k) (by omega) (x0,x1,x2,x3)
   have PT:Bl w ((((w2.setCell ⟨g,k*4,none⟩ (.int .i64 x0)).setCell ⟨g,k*4+1,none⟩ (.int .i64 x1)).setCell ⟨g,k*4+2,none⟩ (.string x2)).setCell ⟨g,k*4+3,none⟩ (.string x3)):=
    (((ff.setCell (p:=⟨g,k*4,none⟩) (Nat.le_of_eq hg) _).setCell (p:=⟨g,k*4+1,none⟩) (Nat.le_of_eq hg) _).setCell (p:=⟨g,k*4+2,none⟩) (Nat.le_of_eq hg) _).setCell (p:=⟨g,k*4+3,none⟩) (Nat.le_of_eq hg) _
   obtain⟨W5,vb⟩:=eZ ((((w2.setCell ⟨g,k*4,none⟩ (.int .i64 x0)).setCell ⟨g,k*4+1,none⟩ (.int .i64 x1)).setCell ⟨g,k*4+2,none⟩ (.string x2)).setCell ⟨g,k*4+3,none⟩ (.string x3));rw[vb]at hS PT;have HS:=aA (aI hS PT);clear hS PT vq ya HI hI qn C7 Hn ff;go_wp2;go_roundw
   case rel=>exact⟨k+1,by omega,by go_num,HS.out.1,HS.out.2⟩
   case measure=>simp[intOf];omega
  ·obtain rfl:k=l.length:=by omega
   have lm:¬((l.length:Nat):Int) <((l.length:Nat):Int):=by omega
   have e:opP l l.length=l:=by simp[opP]
   rw[e]at hI;have HI:=aA hI;clear hI e;go_wp2;rw[O7.out];exact O5.out wr HI.out hb
