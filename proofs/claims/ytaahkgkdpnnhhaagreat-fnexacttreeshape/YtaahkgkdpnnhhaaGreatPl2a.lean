import Derived.RangeFuncBox
import Derived.Maps.AppendAt
import Derived.Test.YtaahkgkdpnnhhaaGreatFr1
set_option maxHeartbeats 9999999
set_option maxRecDepth 99999
set_option linter.all false
namespace Go.Proofs.YtaahkgkdpnnhhaaGreat
open Go.RowKit Go.Shelf
variable{zs:List Int}{xs:List Value}{cap g k s size:Nat}{tmp:Obj}{e:TypeId}{cs ct v v':Value}{W W' w w1:World}
theorem bX{B:Nat}{t:TypeId}(h:Boxed W B t v)(k:Bl W W'):Boxed W' B t v:=(k.block B h.lt).trans h
theorem aEF{β:Type}(lo hi:Nat)(v:Value)(f:β→List Int):Own (fun s W=>cF lo hi W v (f s)):=by
 rintro s X Y row h hg od;obtain⟨a,cap,hv,hc⟩:=h.shape;refine⟨h.small,a,cap,hv,fun hp=>?_⟩;obtain⟨b,off,ha,h1,h2,h3,aa⟩:=hc hp;refine⟨b,off,ha,h1,h2,lL h3 hg.size,fun i hi=>?_⟩;obtain⟨e1,e2⟩:=aa i hi;exact⟨cell_kept e1 hg od,(frozen_kept e1 hg od).trans e2⟩
structure PlS(w:World)(s g cap:Nat)(cs ct:Value)(zs:List Int)(pre:List (Blk zs.length))(v:Value)(W:World):Prop where
 plan:Boxed W (s+1) 24 v
 row:W.ownsRow s 2 1 v pre.length (pre.map fun x=>Value.int .i64 (x.1:Int))
 cbox:Boxed W s 24 (.slice (some ⟨g,0,none⟩) zs.length cap)
 cnt:cF g (g+1) W (.slice (some ⟨g,0,none⟩) zs.length cap) (mO zs pre)
 r0:Boxed W w.heap.size 24 (.slice none 0 0)
 r1:Boxed W (w.heap.size+1) 95 (.slice none 0 0)
 r2:Boxed W (w.heap.size+1+1) 2 (.int .i64 0)
 bs:Boxed W (s+1+1) 24 cs
 bt:Boxed W (s+1+1+1) 24 ct
 bel:Bl w W
theorem aJV(hs:w.heap.size≤s):OwnFrom s (fun(pre:List (Blk zs.length)) W=>∃v,PlS w s g cap cs ct zs pre v W):=by
 rintro pre X Y row ⟨v,h⟩ hg hr;have jr:∀r,row=some r→∃o:Obj,X.heap[r]?=some o∧o.isCells=false:=fun r e=>(hr r e).2;obtain⟨v',e1,e2,e3⟩:=holdsRow_own (β:=Unit) s (s+1) 24 2 1 (fun _=>pre.length) (fun _=>pre.map fun x=>Value.int .i64 (x.1:Int)) (fun _ u=>u=v) () X Y row ⟨v,h.plan,h.row,rfl⟩ hg jr;subst e3;exact⟨v',e1,e2,boxed_own (β:=Unit) _ _ (fun _=>_) () X Y row h.cbox hg jr,aEF (β:=Unit) _ _ _ (fun _=>mO zs pre) () X Y row h.cnt hg jr,boxed_own (β:=Unit) _ _ (fun _=>_) () X Y row h.r0 hg jr,boxed_own (β:=Unit) _ _ (fun _=>_) () X Y row h.r1 hg jr,boxed_own (β:=Unit) _ _ (fun _=>_) () X Y row h.r2 hg jr,boxed_own (β:=Unit) _ _ (fun _=>_) () X Y row h.bs hg jr,boxed_own (β:=Unit) _ _ (fun _=>_) () X Y row h.bt hg jr,ownFrom_below (β:=Unit) (nR _) hs () X Y row h.bel hg hr⟩
theorem PlS.appended{pre:List (Blk zs.length)}{x:Blk zs.length}(h:PlS w s g cap cs ct zs pre v W)(hs:w.heap.size+3<s)(hg:g<s)(qo:w.heap.size+3<g)
  (ap:w1.ownsRow s 2 1 v' (pre.length+1) ((pre.map fun x=>Value.int .i64 (x.1:Int))++[.int .i64 (x.1:Int)])) (kr:(W.alloc tmp).grownBy w1 v.ownBlock):
  Boxed w1 (s+1) 24 v∧Boxed (w1.setCell ⟨s+1,0,none⟩ v') (s+1) 24 v'∧(w1.setCell ⟨s+1,0,none⟩ v').ownsRow s 2 1 v' (pre++[x]).length ((pre++[x]).map fun x=>Value.int .i64 (x.1:Int))∧
  Boxed (w1.setCell ⟨s+1,0,none⟩ v') s 24 (.slice (some ⟨g,0,none⟩) zs.length cap)∧cF g (g+1) (w1.setCell ⟨s+1,0,none⟩ v') (.slice (some ⟨g,0,none⟩) zs.length cap) (mO zs pre)∧
  Boxed (w1.setCell ⟨s+1,0,none⟩ v') w.heap.size 24 (.slice none 0 0)∧Boxed (w1.setCell ⟨s+1,0,none⟩ v') (w.heap.size+1) 95 (.slice none 0 0)∧Boxed (w1.setCell ⟨s+1,0,none⟩ v') (w.heap.size+1+1) 2 (.int .i64 0)∧
  Boxed (w1.setCell ⟨s+1,0,none⟩ v') (s+1+1) 24 cs∧Boxed (w1.setCell ⟨s+1,0,none⟩ v') (s+1+1+1) 24 ct∧Below s W (w1.setCell ⟨s+1,0,none⟩ v')∧KeepsOthers W (w1.setCell ⟨s+1,0,none⟩ v'):=by
 have GK:s≤W.heap.size:=by have:=h.cbox.lt;omega
 obtain⟨e1,e2,e3,e4,e5⟩:=h.plan.appended (by decide) h.row GK (by omega) ap kr;have EU:∀{B:Nat} {u:Value},Boxed W B 24 u→B≠s+1→Boxed (w1.setCell ⟨s+1,0,none⟩ v') B 24 u:=fun hb av=>((hb.alloc tmp).kept kr (hb.not_row (by decide) h.row)).other av _;have AR:∀{B:Nat} {t:TypeId} {u:Value},Boxed W B t u→B<s→Boxed (w1.setCell ⟨s+1,0,none⟩ v') B t u:=fun hb hB=>(e5.block _ hB).trans hb;exact⟨e1,e2,by simpa using e3,EU h.cbox (by omega),h.cnt.kept e5.size fun b h1 h2 _=>e5.block b (by omega),AR h.r0 (by omega),AR h.r1 (by omega),AR h.r2 (by omega),EU h.bs (by omega),EU h.bt (by omega),e5,e4⟩
theorem PlS.mid{pre:List (Blk zs.length)}(x:Blk zs.length)(h:PlS w s g cap cs ct zs pre v W)(hg:g<s)(kr:(W.alloc tmp).grownBy w1 v.ownBlock):
  w1.cell? ⟨s,0,none⟩=some (.slice (some ⟨g,0,none⟩) zs.length cap)∧w1.cell? ⟨g,x.1,none⟩=some (.int .i64 ((mO zs pre).getD x.1 0))∧w1.frozen? ⟨g,x.1,none⟩=false:=by
 have e1:Boxed w1 s 24 (.slice (some ⟨g,0,none⟩) zs.length cap):=(h.cbox.alloc tmp).kept kr (h.cbox.not_row (by decide) h.row);have OO:w1.heap[g]?=W.heap[g]?:=by
  have ES:g<W.heap.size:=by have:=h.cbox.lt;omega
  rw[kr.block g (by simp;omega) (fun e=>?_)]
  ·exact Below.heap_alloc W tmp g ES
  ·rcases h.row.2 with⟨rfl,_⟩ | ⟨gg,_,_,rfl,hb,_⟩
   ·simp[Value.ownBlock]at e
   ·simp[Value.ownBlock]at e;omega
 have xr:∀b,g≤b→b<g+1→b<W.heap.size→w1.heap[b]?=W.heap[b]?:=fun b h1 h2 _=>by rw[show b=g by omega];exact OO
 have e2:=h.cnt.kept (w':=w1) (by have:=kr.size;simp at this;omega) xr;obtain⟨_,_,he,hs⟩:=e2.shape;simp only[Value.slice.injEq]at he;obtain⟨rfl,vg,rfl⟩:=he;have hx:=x.2.2;obtain⟨_,_,he,_,_,_,h4⟩:=hs (by omega);simp only[sJ,Addr.mk.injEq,and_true]at he;obtain⟨rfl,rfl⟩:=he;obtain⟨q1,q2⟩:=h4 x.1 (by omega);rw[Nat.zero_add]at q1 q2;exact⟨e1.cell,q1,q2⟩
theorem nN(h:Bl W W'):KeepsOthers W W':=⟨h.size,fun k o hk _=>(h.block k (Array.getElem?_eq_some_iff.1 hk).1).trans hk⟩
theorem aEG{pre:List (Blk zs.length)}(h:PlS w s g cap cs ct zs pre v W)(k:Bl W W'):PlS w s g cap cs ct zs pre v W':=
 ⟨bX h.plan k,by
  rcases h.row.2 with e | ⟨gg,cc,cu,hv,e1,e2,e3⟩
  ·exact⟨h.row.1,.inl e⟩
  ·exact⟨h.row.1,.inr ⟨gg,cc,cu,hv,e1,(k.block gg (Array.getElem?_eq_some_iff.1 e2).1).trans e2,e3⟩⟩,bX h.cbox k,h.cnt.below k,bX h.r0 k,bX h.r1 k,bX h.r2 k,bX h.bs k,bX h.bt k,h.bel.trans (k.mono h.bel.size)⟩
theorem PlS.next{pre:List (Blk zs.length)}{x:Blk zs.length}(h:PlS w s g cap cs ct zs pre v W)(hs:w.heap.size+3<s)(hg:g<s)(qo:w.heap.size+3<g)
  (ap:w1.ownsRow s 2 1 v' (pre.length+1) ((pre.map fun x=>Value.int .i64 (x.1:Int))++[.int .i64 (x.1:Int)])) (kr:(W.alloc tmp).grownBy w1 v.ownBlock):
  PlS w s g cap cs ct zs (pre++[x]) v' ((w1.setCell ⟨s+1,0,none⟩ v').setCell ⟨g,x.1,none⟩ (.int .i64 1))∧KeepsOthers W ((w1.setCell ⟨s+1,0,none⟩ v').setCell ⟨g,x.1,none⟩ (.int .i64 1))∧
   Below w.heap.size W ((w1.setCell ⟨s+1,0,none⟩ v').setCell ⟨g,x.1,none⟩ (.int .i64 1)):=by
 obtain⟨p1,p2,p3,p4,p5,p6,p7,p8,p9,p10,p11,p12⟩:=h.appended hs hg qo ap kr;have hx:=x.2.2;have qk:=p5.stored x.1 hx 1 (by omega);rw[Nat.zero_add,←vJ]at qk;have hk:∀{B:Nat} {t:TypeId} {u:Value},Boxed (w1.setCell ⟨s+1,0,none⟩ v') B t u→B≠g→Boxed ((w1.setCell ⟨s+1,0,none⟩ v').setCell ⟨g,x.1,none⟩ (.int .i64 1)) B t u:=fun hb av=>(Below.heap_setCell _ _ _ _ av).trans hb;have hB:Below w.heap.size W ((w1.setCell ⟨s+1,0,none⟩ v').setCell ⟨g,x.1,none⟩ (.int .i64 1)):=(p11.mono (by omega)).setCell (p:=⟨g,x.1,none⟩) (by show w.heap.size≤g;omega) _;refine⟨⟨hk p2 (by omega),?_,hk p4 (by omega),qk.1,hk p6 (by omega),hk p7 (by omega),hk p8 (by omega),hk p9 (by omega),hk p10 (by omega),h.bel.trans hB⟩,p12.trans (KeepsOthers.setCell _ _ _),hB⟩;rcases p3.2 with e | ⟨gg,cc,cu,hv,e1,e2,e3⟩
 ·exact⟨p3.1,.inl e⟩
 ·exact⟨p3.1,.inr ⟨gg,cc,cu,hv,e1,(Below.heap_setCell _ _ _ _ (by show gg≠g;omega)).trans e2,e3⟩⟩
theorem PlS.kp{pre pre':List (Blk zs.length)}(h:PlS w s g cap cs ct zs pre v W)(h':PlS w s g cap cs ct zs pre' v' W')(hb:Below w.heap.size W W'):KpF w.heap.size (s+1+1) (s+1+1+1) W W':=
 ⟨hb,h'.bs.trans h.bs.symm,h'.bt.trans h.bt.symm⟩
def PlE(w:World)(s:Nat)(zs:List Int)(pre:List (Blk zs.length))(W:World):Prop:=
 ∃p q,Boxed W w.heap.size 24 p∧Boxed W (w.heap.size+1) 95 q∧Boxed W (w.heap.size+1+1) 2 (.int .i64 0)∧W.ownsRow s 2 1 p pre.length (pre.map fun x=>Value.int .i64 (x.1:Int))∧W.ownsRow s 165 3 q (rnO zs pre).length (eT (rnO zs pre))∧Bl w W
theorem eY(h:W.ownsRow s e size v k xs){p:Addr}(hp:p.block<s)(u:Value):(W.setCell p u).ownsRow s e size v k xs:=by
 rcases h.2 with e | ⟨gg,cc,cu,hv,e1,e2,e3⟩
 ·exact⟨h.1,.inl e⟩
 ·exact⟨h.1,.inr ⟨gg,cc,cu,hv,e1,(Below.heap_setCell _ _ _ _ (by omega)).trans e2,e3⟩⟩
theorem tF{s':Nat}(h:W.ownsRow s e size v k xs)(hs:s'≤s):W.ownsRow s' e size v k xs:=by
 rcases h.2 with e | ⟨gg,cc,cu,hv,e1,e3⟩
 ·exact⟨h.1,.inl e⟩
 ·exact⟨h.1,.inr ⟨gg,cc,cu,hv,by omega,e3⟩⟩
theorem PlS.ends{base:Nat}{pre:List (Blk zs.length)}{q:Value}(h:PlS w s g cap cs ct zs pre v W)(hs:w.heap.size+3<s)(hq:fB base W q (rnO zs pre))(hb:s≤base):
  PlE w s zs pre (((W.setCell ⟨w.heap.size,0,none⟩ v).setCell ⟨w.heap.size+1,0,none⟩ q).setCell ⟨w.heap.size+1+1,0,none⟩ (.int .i64 0)):=by
 have r1:Boxed (W.setCell ⟨w.heap.size,0,none⟩ v) (w.heap.size+1) 95 (.slice none 0 0):=h.r1.other (by omega) _;have r2:Boxed ((W.setCell ⟨w.heap.size,0,none⟩ v).setCell ⟨w.heap.size+1,0,none⟩ q) (w.heap.size+1+1) 2 (.int .i64 0):=(h.r2.other (by omega) _).other (by omega) _;refine⟨v,q,((h.r0.set v).other (by omega) _).other (by omega) _,(r1.set q).other (by omega) _,r2.set _,?_,?_,?_⟩
 ·exact eY (eY (eY h.row (by show w.heap.size<s;omega) _) (by show w.heap.size+1<s;omega) _) (by show w.heap.size+1+1<s;omega) _
 ·exact eY (eY (eY (tF hq hb) (by show w.heap.size<s;omega) _) (by show w.heap.size+1<s;omega) _) (by show w.heap.size+1+1<s;omega) _
 ·exact((h.bel.setCell (p:=⟨w.heap.size,0,none⟩) (nR _) _).setCell (p:=⟨w.heap.size+1,0,none⟩) (by show w.heap.size≤w.heap.size+1;omega) _).setCell (p:=⟨w.heap.size+1+1,0,none⟩) (by show w.heap.size≤w.heap.size+1+1;omega) _
theorem aJU(hs:w.heap.size≤s):OwnFrom s (fun(pre:List (Blk zs.length)) W=>PlE w s zs pre W):=by
 rintro pre X Y row ⟨p,q,h0,h1,h2,h3,h4,h5⟩ hg hr;have jr:∀r,row=some r→∃o:Obj,X.heap[r]?=some o∧o.isCells=false:=fun r e=>(hr r e).2;obtain⟨v',e1,e2,e3⟩:=holdsRow_own (β:=Unit) s w.heap.size 24 2 1 (fun _=>pre.length) (fun _=>pre.map fun x=>Value.int .i64 (x.1:Int)) (fun _ u=>u=p) () X Y row ⟨p,h0,h3,rfl⟩ hg jr;subst e3;obtain⟨v2,f1,f2,f3⟩:=holdsRow_own (β:=Unit) s (w.heap.size+1) 95 165 3 (fun _=>(rnO zs pre).length) (fun _=>eT (rnO zs pre)) (fun _ u=>u=q) () X Y row ⟨q,h1,h4,rfl⟩ hg jr;subst f3;exact⟨v',v2,e1,f1,boxed_own (β:=Unit) _ _ (fun _=>_) () X Y row h2 hg jr,e2,f2,ownFrom_below (β:=Unit) (nR _) hs () X Y row h5 hg hr⟩
theorem aDT{n:Nat}{pre:List (Blk n)}{x:Blk n}(h:∀j,j<pre.length→good zs (pre.take (j+1))=false)(hx:good zs (pre++[x])=false):∀j,j <(pre++[x]).length→good zs ((pre++[x]).take (j+1))=false:=fun j hj=>by
 by_cases e:j<pre.length
 ·rw[List.take_append_of_le_length (by omega)];exact h j e
 ·rw[List.take_of_length_le (by simp at hj ⊢;omega)];exact hx
attribute [local go_sem] Oper.semAt_some
theorem yP(F:Fence)(n:Nat)(hW:∀{n f args w R},Calls Tryz.prog f args w R→CallsIn F n Tryz.prog f args w R)(o9:∀f,F.fn f)(cy:F.round=none)(hn:3≤n)(a a':Option Addr)(c c':Nat)(zs ys:List Int)(w:World)(hv:Nts w (.slice a zs.length c) zs)(nw:Nts w (.slice a' ys.length c') ys)(kg:chk [zs,ys]=0):
  CallsIn F n Tryz.prog 146 #[.slice a zs.length c,.slice a' ys.length c'] w fun e w'=>∃u v,e=.returned (.tuple #[u,v,.int .i64 (plC zs ys)])∧dH w.heap.size w' u (plP zs ys)∧fB w.heap.size w' v (plR zs ys)∧Bl w w':=by
 obtain⟨hl,en,jg⟩:=mD kg;have hz:=(aAI en).1;have HL:Hid (ys.length=zs.length):=hl.symm;have nm:1≤n:=by omega
 clear en jg hl;have g1:=o9 154;have g2:=o9 148;have g3:=o9 131;refine callsIn_of_wp_marks Tryz.func146 rfl (o9 _) ?_ cy;simp only[Tryz.ntmps146,List.size_toArray,List.length_cons,List.length_nil,Nat.reduceAdd,Nat.reduceSub,Array.replicate_succ,Array.replicate_zero,List.push_toArray,List.append_toArray,List.nil_append,List.cons_append];gi_wp2_with fail;have b0:=((Boxed.new w 24 (.slice none 0 0)).alloc (.cells #[.slice none 0 0] 95)).alloc (.cells #[.int .i64 0] 2);have b1:=(Boxed.new (w.alloc (.cells #[.slice none 0 0] 24)) 95 (.slice none 0 0)).alloc (.cells #[.int .i64 0] 2);have b2:=Boxed.new ((w.alloc (.cells #[.slice none 0 0] 24)).alloc (.cells #[.slice none 0 0] 95)) 2 (.int .i64 0);simp only[World.size_alloc]at b1 b2;have c9:Bl w (((w.alloc (.cells #[.slice none 0 0] 24)).alloc (.cells #[.slice none 0 0] 95)).alloc (.cells #[.int .i64 0] 2)):=(((bQ _ w).alloc (nR _) _).alloc (by simp) _).alloc (by simp;omega) _;refine(hW (pZ _ [zs,ys] _ (LRd.two (hv.below c9) (nw.below c9) _ _ (by simp)) (by simp) (by simp) (aEY (by omega) (by rw[HL.out];omega)))).mono ?_;rintro e w1 ⟨rfl,be⟩;rw[kg];have r0:=(b0.alloc (.cells #[.slice a zs.length c,.slice a' ys.length c'] 24));have r1:=(b1.alloc (.cells #[.slice a zs.length c,.slice a' ys.length c'] 24));have r2:=(b2.alloc (.cells #[.slice a zs.length c,.slice a' ys.length c'] 24));have d9:=c9.trans ((iJ _ (.cells #[.slice a zs.length c,.slice a' ys.length c'] 24)).mono c9.size);rw[be]at r0 r1 r2 d9;have io:w.heap.size+3<w1.heap.size:=by rw[←be];simp
 clear be b0 b1 b2 c9;gi_wp2_with fail;refine(hW (pI _ _ zs _ (by omega) (by omega) (hv.below d9))).mono ?_;rintro e w2 ⟨u,rfl,iu,cx⟩;obtain⟨g,cap,rfl⟩:∃g cap,u=.slice (some ⟨g,0,none⟩) zs.length cap:=by
  obtain⟨m,hm⟩:∃m,zs.length=m+1:=⟨zs.length-1,by omega⟩;have mh:=iu;unfold dH at mh;rw[hm]at mh ⊢;exact ownsRow_succ mh
 gi_wp2_with (gi_at_call 131;refine(jB F (n-1) g3 cy _ _ _ ⟨_,_,_,rfl⟩ ⟨_,_,_,rfl⟩).mono ?_;rintro e w' ⟨rfl,rfl⟩)
 have Dp:=iu.own hv.small;obtain⟨g9,mj⟩:w1.heap.size≤g∧g<w2.heap.size:=by
  have:=World.ownsRow.lt iu g rfl
  exact this
 have wy:cF g (g+1) w2 (.slice (some ⟨g,0,none⟩) zs.length cap) zs:=by
  obtain⟨_,_,he,hs⟩:=Dp.shape;refine⟨hv.small,_,_,rfl,fun hp=>?_⟩;simp only[Value.slice.injEq,true_and]at he;obtain⟨rfl,rfl⟩:=he;obtain⟨_,_,he,_,_,h3,h4⟩:=hs hp;simp only[sJ,Addr.mk.injEq,and_true]at he;obtain⟨rfl,rfl⟩:=he;exact⟨g,0,rfl,nR _,Nat.lt_succ_self _,h3,h4⟩
 have bC:=Boxed.new w2 24 (.slice (some ⟨g,0,none⟩) zs.length cap);have bP:=Boxed.new (w2.alloc (.cells #[.slice (some ⟨g,0,none⟩) zs.length cap] 24)) 24 (.slice none 0 0);have bS:=Boxed.new ((w2.alloc (.cells #[.slice (some ⟨g,0,none⟩) zs.length cap] 24)).alloc (.cells #[.slice none 0 0] 24)) 24 (.slice a zs.length c);have bT:=Boxed.new (((w2.alloc (.cells #[.slice (some ⟨g,0,none⟩) zs.length cap] 24)).alloc (.cells #[.slice none 0 0] 24)).alloc (.cells #[.slice a zs.length c] 24)) 24 (.slice a' ys.length c');simp only[World.size_alloc]at bP bS bT;have Kb:Bl w2 ((((w2.alloc (.cells #[.slice (some ⟨g,0,none⟩) zs.length cap] 24)).alloc (.cells #[.slice none 0 0] 24)).alloc (.cells #[.slice a zs.length c] 24)).alloc (.cells #[.slice a' ys.length c'] 24)):=((((bQ _ w2).alloc (nR _) _).alloc (by simp) _).alloc (by simp;omega) _).alloc (by simp;omega) _;have vp:=d9.trans (cx.mono d9.size);have kh:PlS w w2.heap.size g cap (.slice a zs.length c) (.slice a' ys.length c') zs [] (.slice none 0 0) ((((w2.alloc (.cells #[.slice (some ⟨g,0,none⟩) zs.length cap] 24)).alloc (.cells #[.slice none 0 0] 24)).alloc (.cells #[.slice a zs.length c] 24)).alloc (.cells #[.slice a' ys.length c'] 24)):=
  ⟨(bP.alloc _).alloc _,World.ownsRow_nil _ _ _ _,((bC.alloc _).alloc _).alloc _,wy.below Kb,bX (bX r0 cx) Kb,bX (bX r1 cx) Kb,bX (bX r2 cx) Kb,bS.alloc _,bT,vp.trans (Kb.mono vp.size)⟩
 have Lh:=kh.bel;have bd:((((w2.alloc (.cells #[.slice (some ⟨g,0,none⟩) zs.length cap] 24)).alloc (.cells #[.slice none 0 0] 24)).alloc (.cells #[.slice a zs.length c] 24)).alloc (.cells #[.slice a' ys.length c'] 24)).heap.size=w2.heap.size+4:=by simp
 obtain⟨W3,yy⟩:=eZ (((((w2.alloc (.cells #[.slice (some ⟨g,0,none⟩) zs.length cap] 24)).alloc (.cells #[.slice none 0 0] 24)).alloc (.cells #[.slice a zs.length c] 24)).alloc (.cells #[.slice a' ys.length c'] 24)));rw[yy]at kh Lh bd ⊢;have kf:Hid (W3.heap.size=w2.heap.size+4):=bd;have Xd:=vp.size;generalize hs:w2.heap.size=s at *;have NI:s≤W3.heap.size:=by omega
 have Hg:w.heap.size+3<s:=by omega
 have qo:w.heap.size+3<g:=by omega
 clear yy bC bP bS bT Kb vp Dp wy iu cx r0 r1 r2 bd hs d9;refine wpIn_rangeFunc_ownF cy nm (gf:=150) (lb:=#[.pointer (some ⟨s+1+1,0,none⟩),.pointer (some ⟨s+1+1+1,0,none⟩)]) rfl (o9 _) (enters_of Tryz.func150 (by kernel_rfl) rfl)
  (mJ F (n-1) (o9 _) cy (by omega) (s+1+1) (s+1+1+1) w.heap.size a a' c c' zs ys HL.out (by omega) (by omega) W3 (by have:=kf.out;omega) (by have:=kf.out;omega) (by omega) kh.bs.cell kh.bt.cell w hv nw (by omega) Lh) KpF.trans (KpF.put (by omega) (by have:=kf.out;omega) (by have:=kf.out;omega)) (bQ _ _) (fun _=>rfl)
  (fun pre W=>(∃v,PlS w s g cap (.slice a zs.length c) (.slice a' ys.length c') zs pre v W)∧∀j,j<pre.length→good zs (pre.take (j+1))=false)
  (fun k pre W=>PlE w s zs pre W∧(k=.ret∧∃(p:List (Blk zs.length)) (x:Blk zs.length),pre=p++[x]∧good zs pre=true∧∀j:Nat,j<p.length→good zs (p.take (j+1))=false))
  (fun x X Y row hh hg hr=>⟨aJV (by omega) x X Y row hh.1 hg (fun r e=>⟨lT NI (hr r e).1,(hr r e).2⟩),hh.2⟩)
  (fun k x X Y row hh hg hr=>⟨aJU (by omega) x X Y row hh.1 hg (fun r e=>⟨lT NI (hr r e).1,(hr r e).2⟩),hh.2⟩)
  ⟨⟨_,kh⟩,fun j hj=>by simp at hj⟩
  (fun x=>{tmps:=#[.slice a zs.length c,.slice a' ys.length c',undef,undef,.pointer (some ⟨w.heap.size,0,none⟩),.pointer (some ⟨w.heap.size+1,0,none⟩),.pointer (some ⟨w.heap.size+1+1,0,none⟩),.int .i64 0,.pointer (some ⟨s,0,none⟩),.pointer (some ⟨s+1,0,none⟩),.int .i64 (x.1:Int),undef,.slice a zs.length c,.slice a' ys.length c',.slice (some ⟨w.heap.size+1+1+1,0,none⟩) 2 2,.int .i64 0,.int .i64 0,.bool false,undef,.slice a zs.length c,.slice (some ⟨g,0,none⟩) zs.length cap,.slice a zs.length c,.slice a' ys.length c',.func (.func 150) #[] #[.pointer (some ⟨s+1+1,0,none⟩),.pointer (some ⟨s+1+1+1,0,none⟩)],.int .i64 (x.1:Int),undef,undef,undef,undef,undef,undef,undef,undef,undef,undef,undef,undef,undef,undef,undef,undef,undef],defers:=[]}) ?assign ?body ?done ?stop
 case assign=>
  intro l x W K hK;gi_wp2;exact hK
 case body=>
  rintro l pre x W ⟨⟨v,hP⟩,Bk⟩ Tz;obtain⟨i0,hi,jl,fz,Ae⟩:=info_parts rX;have GK:s≤W.heap.size:=by have:=hP.cbox.lt;omega
  have yl:=x.2.1;have pr:=x.2.2;have OX:(x.1:Int) <(zs.length:Int):=by omega
  have lv:s≠s+1:=by omega
  have M0:g≠s+1:=by omega
  have Wl:g≠s:=by omega
  have yz:=hP.plan.cell;obtain⟨va,vc,rfl⟩:∃va vc,v=.slice va pre.length vc:=by
   rcases hP.row.2 with⟨e,e2⟩ | ⟨gg,cc,cu,e,_⟩
   ·exact⟨none,0,by rw[e,e2]⟩
   ·exact⟨_,_,e⟩
  gi_wp2_with (gi_at_builtin;refine wpListIn_append_own _ rfl _ _ 24 rfl s 2 i0 (.int .i64 0) 1 8 Tryz.underlying24 hi jl fz Ae rfl (by decide) _ _ _ rfl (World.ownsRow.alloc hP.row _) ⟨W.heap.size,0,none⟩ 1 1 [.int .i64 (x.1:Int)] rfl rfl (cell_one_new _ _ _) (by simp[Value.oneCell']) (by unfold maxLen;omega) (by omega) (by simp;omega) ?_;intro v' w4 sg kr _;obtain⟨g',cap',rfl⟩:=ownsRow_succ sg;obtain⟨p1,-⟩:=hP.appended Hg mj qo sg kr;have en:=p1.cell;have Kl:=p1.frozen;obtain⟨m1,m2,m3⟩:=hP.mid x mj kr)
  obtain⟨hN,hK,PR⟩:=hP.next Hg mj qo sg kr;obtain⟨W5,vb⟩:=eZ (((w4.setCell ⟨s+1,0,none⟩ (.slice (some ⟨g',0,none⟩) (pre.length+1) cap')).setCell ⟨g,x.1,none⟩ (.int .i64 1)));rw[vb]at hN hK PR ⊢;have ah:=pP zs (pre++[x]);have S5:=hP.kp hN PR;clear vb sg kr yz en Kl m1 m2 m3 p1 hP;refine⟨fun _=>by omega,(CallsIn.inRound l (hW (aBH _ (mO zs (pre++[x])) _ hN.cnt.nts (by omega)))).mono ?_⟩;rintro e w5 ⟨u,rfl,CK,qy⟩;rw[ah]at CK;have Fh:fB W5.heap.size w5 u (rnO zs (pre++[x])):=CK;obtain⟨ua,uc,rfl⟩:=Fh.shape;have iy:=aEG hN qy;have CH:=hK.trans (nN qy);have Pi:=S5.trans ⟨qy.mono (by have:=hN.bel.size;omega),qy.block _ hN.bs.lt,qy.block _ hN.bt.lt⟩;have K9:s≤W5.heap.size:=by have:=hN.cbox.lt;omega
  have qv:=tC zs (pre++[x]);have c1:=iy.plan.cell;have Wj:IntKind.i64.wrap (20*((pre.length+1:Nat):Int))=((20*(pre.length+1):Nat):Int):=(IntWalk.i64_in _ ⟨by omega,by omega⟩).trans (by omega);clear CK hN hK S5 PR qy ah;by_cases ie:good zs (pre++[x])=true
  ·have ph:(rnO zs (pre++[x])).length≤20*(pre.length+1):=by simpa [good] using ie
   have RH:((rnO zs (pre++[x])).length:Int)≤((20*(pre.length+1):Nat):Int):=by omega
   have d0:=iy.r0.cell;have d1:=iy.r1.cell;have d2:=iy.r2.cell;have e0:=iy.r0.frozen;have e1:=iy.r1.frozen;have e2:=iy.r2.frozen;have Oi:Hid _:=iy.ends Hg Fh K9;have n1:w.heap.size≠w.heap.size+1:=by omega
   have n2:w.heap.size≠w.heap.size+1+1:=by omega
   have n3:w.heap.size+1≠w.heap.size+1+1:=by omega
   have HG:Hid (good zs (pre++[x])=true):=ie;have HN:Hid (∀j:Nat,j<pre.length→good zs (pre.take (j+1))=false):=Bk;clear ie Bk ph Fh iy;gi_wp2;exact⟨((CH.trans (KeepsOthers.setCell _ _ _)).trans (KeepsOthers.setCell _ _ _)).trans (KeepsOthers.setCell _ _ _),Oi.out,rfl,pre,x,rfl,HG.out,HN.out⟩
  ·have Ar:good zs (pre++[x])=false:=by simpa using ie
   have ph:¬(rnO zs (pre++[x])).length≤20*(pre.length+1):=by simpa [good] using ie
   have RH:¬((rnO zs (pre++[x])).length:Int)≤((20*(pre.length+1):Nat):Int):=by omega
   have HG:Hid _:=aDT Bk Ar;generalize (rnO zs (pre++[x])).length=rl at *;clear ie Ar Bk ph Fh;gi_wp2;exact⟨CH,Pi,⟨_,iy⟩,HG.out⟩
 case done=>
  rintro D xs W hD rfl ⟨⟨v,hP⟩,Bk⟩ hK;obtain⟨f1,f2,f3⟩:=xB kg (sT Bk);have d0:=hP.r0.cell;have d1:=hP.r1.cell;have d2:=hP.r2.cell;have e0:=hP.r0.frozen;have e1:=hP.r1.frozen;have e2:=hP.r2.frozen;have n1:w.heap.size≠w.heap.size+1:=by omega
  have n2:w.heap.size≠w.heap.size+1+1:=by omega
  have n3:w.heap.size+1≠w.heap.size+1+1:=by omega
  gi_wp2
  have k1:=(KeepsOthers.setCell W ⟨w.heap.size,0,none⟩ (.slice none 0 0)).same D _ hK rfl;have k2:=(KeepsOthers.setCell (W.setCell ⟨w.heap.size,0,none⟩ (.slice none 0 0)) ⟨w.heap.size+1,0,none⟩ (.slice none 0 0)).same D _ k1 rfl;have k3:=(KeepsOthers.setCell ((W.setCell ⟨w.heap.size,0,none⟩ (.slice none 0 0)).setCell ⟨w.heap.size+1,0,none⟩ (.slice none 0 0)) ⟨w.heap.size+1+1,0,none⟩ (.int .i64 7)).same D _ k2 rfl;refine⟨by simp,.inl ⟨_,_,rfl,run_takeDeferred k3,?_⟩⟩;have PY:w.heap.size≤D:=by omega
  have x0:Boxed (((W.setCell ⟨w.heap.size,0,none⟩ (.slice none 0 0)).setCell ⟨w.heap.size+1,0,none⟩ (.slice none 0 0)).setCell ⟨w.heap.size+1+1,0,none⟩ (.int .i64 7)) w.heap.size 24 (.slice none 0 0):=((hP.r0.set _).other n1 _).other n2 _;have x1:Boxed (((W.setCell ⟨w.heap.size,0,none⟩ (.slice none 0 0)).setCell ⟨w.heap.size+1,0,none⟩ (.slice none 0 0)).setCell ⟨w.heap.size+1+1,0,none⟩ (.int .i64 7)) (w.heap.size+1) 95 (.slice none 0 0):=((hP.r1.other (Ne.symm n1) _).set _).other n3 _;have x2:Boxed (((W.setCell ⟨w.heap.size,0,none⟩ (.slice none 0 0)).setCell ⟨w.heap.size+1,0,none⟩ (.slice none 0 0)).setCell ⟨w.heap.size+1+1,0,none⟩ (.int .i64 7)) (w.heap.size+1+1) 2 (.int .i64 7):=((hP.r2.other (Ne.symm n2) _).other (Ne.symm n3) _).set _;have y0:=cell_kept x0.cell (grownBy_putObj' _ D (.deferred none)) (fun r e=>by cases e;exact⟨_,k3,rfl⟩);have y1:=cell_kept x1.cell (grownBy_putObj' _ D (.deferred none)) (fun r e=>by cases e;exact⟨_,k3,rfl⟩);have y2:=cell_kept x2.cell (grownBy_putObj' _ D (.deferred none)) (fun r e=>by cases e;exact⟨_,k3,rfl⟩);refine⟨.tuple #[.slice none 0 0,.slice none 0 0,.int .i64 7],?_,.slice none 0 0,.slice none 0 0,by rw[f3],by rw[f1];exact dH.start _ _,by rw[f2];exact fB.start _ _,?_⟩
  ·simp[results,Tryz.f146,go_sem,y0,y1,y2]
  ·exact(((hP.bel.setCell (p:=⟨w.heap.size,0,none⟩) (nR _) _).setCell (p:=⟨w.heap.size+1,0,none⟩) (by show w.heap.size≤w.heap.size+1;omega) _).setCell (p:=⟨w.heap.size+1+1,0,none⟩) (by show w.heap.size≤w.heap.size+1+1;omega) _).trans (belowK_b (w:=w) (nR _) _ D _ _ PY k3 rfl rfl)
 case stop=>
  rintro D k pre W hD ⟨q,hq,lg⟩ ⟨⟨p0,q0,h0,h1,h2,h3,h4,h5⟩,rfl,p,x,T1,ie,Bk⟩ hK;have qi:pre.length=p.length+1:=by rw[T1];simp
  have ON:(frs zs ys zs.length zs.length).take (p.length+1)=pre:=by
   obtain⟨t,ht⟩:=rU zs ys zs.length hq;rw[←ht,←lg,List.take_append_of_le_length (by omega),List.take_of_length_le (by omega)]
  have tj:p.length <(frs zs ys zs.length zs.length).length:=by
   have h:=congrArg List.length ON;rw[List.length_take,qi]at h;omega
  have Ku:kY zs ys=some p.length:=sU tj (by rw[ON];exact ie) fun i hi=>by
   have h:(frs zs ys zs.length zs.length).take (i+1)=p.take (i+1):=by
    have h2:=congrArg (List.take (i+1)) ON;rw[List.take_take,Nat.min_eq_left (by omega)]at h2;rw[h2,T1,List.take_append_of_le_length (by omega)]
   rw[h];exact Bk i hi
  obtain⟨f1,f2,f3⟩:=xC kg Ku;rw[ON]at f1 f2;gi_wp2;refine⟨by simp,.inl ⟨_,_,rfl,run_takeDeferred hK,?_⟩⟩;have PY:w.heap.size≤D:=by omega
  have y0:=cell_kept h0.cell (grownBy_putObj' _ D (.deferred none)) (fun r e=>by cases e;exact⟨_,hK,rfl⟩);have y1:=cell_kept h1.cell (grownBy_putObj' _ D (.deferred none)) (fun r e=>by cases e;exact⟨_,hK,rfl⟩);have y2:=cell_kept h2.cell (grownBy_putObj' _ D (.deferred none)) (fun r e=>by cases e;exact⟨_,hK,rfl⟩);have NO:w.heap.size≤s:=by omega
  refine⟨.tuple #[p0,q0,.int .i64 0],?_,p0,q0,by rw[f3],?_,?_,?_⟩
  ·simp[results,Tryz.f146,go_sem,y0,y1,y2]
  ·rw[f1]
   unfold dH;have h:=tF (ownsRow_putObj h3 (.deferred none) hK rfl) NO;rw[List.length_map,List.map_map];exact h
  ·rw[f2]
   exact tF (ownsRow_putObj h4 (.deferred none) hK rfl) NO
  ·exact h5.trans (belowK_b (w:=w) (nR _) _ D _ _ PY hK rfl rfl)
theorem wO(a a':Option Addr)(c c':Nat)(zs ys:List Int)(w:World)(hv:Nts w (.slice a zs.length c) zs)(nw:Nts w (.slice a' ys.length c') ys)(kg:chk [zs,ys]=0):
  Calls Tryz.prog 146 #[.slice a zs.length c,.slice a' ys.length c'] w fun e w'=>∃u v,e=.returned (.tuple #[u,v,.int .i64 (plC zs ys)])∧dH w.heap.size w' u (plP zs ys)∧fB w.heap.size w' v (plR zs ys)∧Bl w w':=
 (callsIn_wide (n:=3)).1 (yP Fence.wide 3 (fun h=>callsIn_wide.2 h) (fun _=>trivial) rfl (nR _) a a' c c' zs ys w hv nw kg)
end Go.Proofs.YtaahkgkdpnnhhaaGreat
namespace Go.Proofs.YtaahkgkdpnnhhaaGreat
open Go.RowKit
theorem aIA(zs:List Int)(k:Nat)(h:k<zs.length):zs.take (k+1)=zs.take k++[zs.getD k 0]:=by
 rw[List.take_succ_eq_append_getElem h];simp[h]
theorem tM{zs:List Int}(h:∀i,-9223372036854775808≤zs.getD i 0∧zs.getD i 0≤9223372036854775807)(k i:Nat):-9223372036854775808≤(zs.take k).getD i 0∧(zs.take k).getD i 0≤9223372036854775807:=by
 have:=h i
 simp only[gD,List.getElem?_take]at this ⊢;by_cases hi:i<k
 ·rw[if_pos hi];exact this
 ·rw[if_neg hi];simp
theorem cF.take{lo hi:Nat}{w:World}{a:Option Addr}{n cap:Nat}{zs:List Int}(h:cF lo hi w (.slice a n cap) zs)(k:Nat)(hk:k≤n):cF lo hi w (.slice a k cap) (zs.take k):=by
 obtain⟨_,_,he,hs⟩:=h.shape;simp only[Value.slice.injEq]at he;obtain⟨rfl,rfl,rfl⟩:=he;have hl:(zs.take k).length=k:=by simp;omega
 refine⟨tM h.small k,a,cap,by rw[hl],fun hp=>?_⟩;rw[hl]at hp;obtain⟨b,off,ha,h1,h2,h3,hc⟩:=hs (by omega);refine⟨b,off,ha,h1,h2,h3,fun i hi=>?_⟩;rw[hl]at hi;obtain⟨c1,c2⟩:=hc i (by omega);refine⟨?_,c2⟩;rw[c1];simp only[gD,List.getElem?_take,if_pos hi]
theorem aJH(zs ys:List Int)(i:Nat)(h:i <(frs zs ys zs.length zs.length).length):(frI zs ys zs.length zs.length).getD i 0=(((frs zs ys zs.length zs.length)[i]'(h)).1:Int):=by
 simp[frI,h]
theorem aGK(zs ys:List Int)(i:Nat)(h:i <(frs zs ys zs.length zs.length).length):(frs zs ys zs.length zs.length).take (i+1)=(frs zs ys zs.length zs.length).take i++[(frs zs ys zs.length zs.length)[i]'(h)]:=List.take_succ_eq_append_getElem h
theorem aCK(zs ys:List Int):(frI zs ys zs.length zs.length).length=(frs zs ys zs.length zs.length).length:=by simp[frI]
theorem cF.stored2{lo hi:Nat}{w:World}{a:Option Addr}{n cap:Nat}{zs:List Int}(h:cF lo hi w (.slice a n cap) zs)(j:Nat)(hj:j<n)(x:Int)(hx:-9223372036854775808≤x∧x≤9223372036854775807):
  ∃b off,a=some ⟨b,off,none⟩∧lo≤b∧b<hi∧w.cell? ⟨b,off+j,none⟩=some (.int .i64 (zs.getD j 0))∧w.frozen? ⟨b,off+j,none⟩=false∧
   cF lo hi (w.setCell ⟨b,off+j,none⟩ (.int .i64 x)) (.slice a n cap) (zs.set j x)∧Upd lo hi w (w.setCell ⟨b,off+j,none⟩ (.int .i64 x)):=by
 have h':=h;obtain⟨_,_,he,hs⟩:=h'.shape;simp only[Value.slice.injEq]at he;obtain⟨rfl,rfl,rfl⟩:=he;obtain⟨b,off,rfl,h1,h2,h3,hc⟩:=hs (by omega);obtain⟨c1,c2⟩:=hc j hj;obtain⟨s1,s2⟩:=h.stored j hj x hx;exact⟨b,off,rfl,h1,h2,c1,c2,s1,s2⟩
theorem aAW(a a':Option Addr)(c c':Nat)(zs ys:List Int)(w:World)(hv:Nts w (.slice a zs.length c) zs)(nw:Nts w (.slice a' ys.length c') ys)(kg:chk [zs,ys]=0):
  Calls Tryz.prog 63 #[.slice a zs.length c,.slice a' ys.length c'] w fun e w'=>∃a0 c0 a1 c1 l0 h0 l1 h1,e=.returned (.tuple #[.slice a0 (plP zs ys).length c0,.slice a1 (plR zs ys).length c1,.int .i64 (plC zs ys)])∧w.heap.size≤l0∧h0≤w'.heap.size∧w.heap.size≤l1∧h1≤w'.heap.size∧(h0≤l1∨h1≤l0)∧cF l0 h0 w' (.slice a0 (plP zs ys).length c0) (plP zs ys)∧aFI l1 h1 w' (.slice a1 (plR zs ys).length c1) (plR zs ys)∧Bl w w':=by
 obtain⟨hl,en,jg⟩:=mD kg;have hz:=(aAI en).1;have HL:Hid (ys.length=zs.length):=hl.symm;obtain⟨_,_,he,hs⟩:=hv.shape;simp only[Value.slice.injEq,true_and]at he;obtain⟨rfl,rfl⟩:=he;obtain⟨b,off,rfl,aa⟩:=hs (by omega);have lu:b<w.heap.size:=World.block_lt_of_cell? _ _ (aa 0 (by omega));have lq:=hv.small;clear en jg hl hs;go_enter Tryz.func63,Tryz.ntmps63;go_wp2_with fail;refine(sD _ _ _ _ zs ys _ hv nw HL.out (by omega) (by omega)).mono ?_;rintro e w1 ⟨u,rfl,it,ao⟩;obtain⟨fa,fc,rfl⟩:=it.shape;have Do:=it.own (fun i=>aDR zs ys _ _ i (by omega));have io:=ao.size;have MP:(frI zs ys zs.length zs.length).length≤fc:=by
  rcases it.2 with⟨e,e2⟩ | ⟨gg,cc,cu,e,_,_,h3,_⟩
  ·simp only[Value.slice.injEq]at e;omega
  ·simp only[Value.slice.injEq]at e;omega
 have tj:=rS zs ys zs.length zs.length;have Jc:=aCK zs ys;rw[Jc]at tj MP;rw[Jc]at Do;rw[Jc];clear it hv nw;obtain⟨m,HM⟩:∃m,Hid ((frs zs ys zs.length zs.length).length=m):=⟨_,rfl⟩;rw[HM.out]at tj Do Jc MP;rw[HM.out];go_wp2;go_loopw [8] (fun i wr=>∃k:Nat,1≤k∧k≤m+1∧i=.int .i64 k∧cF w.heap.size w1.heap.size wr (.slice fa m fc) (frI zs ys zs.length zs.length)∧Bl w wr∧w1.heap.size≤wr.heap.size∧∀j,j+1<k→good zs ((frs zs ys zs.length zs.length).take (j+1))=false) (fun i _=>m+1 -(intOf i).toNat)
 case atStart=>exact⟨1,nR _,by omega,rfl,Do,ao,nR _,fun j hj=>by omega⟩
 case round=>
  obtain⟨k,gx,hk,rfl,hO,hb,NO,Bk⟩:=hrel;obtain⟨wo,rfl⟩:∃wo,wo=wr:=⟨wr,rfl⟩;clear Do ao;by_cases ai:k≤m
  ·have C0:(k:Int)≤(m:Int):=by omega
   have bd:=hb.size;go_wp2;go_loopw [9,10] (fun u i w2=>∃j:Nat,j≤zs.length∧i=.int .i64 j∧dH wo.heap.size w2 u (zs.take j)∧Bl wo w2) (fun _ i _=>zs.length -(intOf i).toNat)
   case atStart=>exact⟨0,Nat.zero_le _,rfl,dH.lit _ _ (nR _) _ rfl,iJ _ _⟩
   case round=>
    obtain⟨j,hj,rfl,ap,ba⟩:=hrel;obtain⟨w2,rfl⟩:∃w2,w2=wr:=⟨wr,rfl⟩;obtain⟨ua,uc,Ei⟩:=ap.shape;have fw:(zs.take j).length=j:=by simp;omega
    rw[fw]at Ei;subst Ei;have ej:=ba.size;by_cases FA:j<zs.length
    ·have g1:w2.cell? ⟨b,off+j,none⟩=some (.int .i64 (zs.getD j 0)):=(ba.cell (p:=⟨b,off+j,none⟩) (by show b<wo.heap.size;omega)).trans ((hb.cell (p:=⟨b,off+j,none⟩) lu).trans (aa j FA))
     have hi:(j:Int) <(zs.length:Int):=by omega
     have HT:Hid (zs.take (j+1)=zs.take j++[zs.getD j 0]):=aIA zs j FA;have Qf:(zs.take j).length<8589934592:=by omega
     generalize zs.getD j 0=z at *;clear fw;go_wp2_with (first | (at_builtin;refine kI rfl _ _ rfl _ ap rfl rfl Qf ej ?_;intro v' w3 ee di AX Qs) | go_in);rw[←HT.out]at ee;go_roundw
     case rel=>exact⟨j+1,by omega,by go_num,ee,ba.trans di⟩
     case measure=>simp[intOf];omega
    ·have Jm:j=zs.length:=by omega
     have Dp:cF wo.heap.size w2.heap.size w2 (.slice ua zs.length uc) zs:=by
      have h:=ap.own (tM lq j);rw[Jm,List.take_length]at h;exact h
     rw[Jm];clear ap fw FA hj Jm;go_wp2;go_loopw [11] (fun i w3=>∃q:Nat,q≤k∧i=.int .i64 q∧cF wo.heap.size w2.heap.size w3 (.slice ua zs.length uc) (mO zs ((frs zs ys zs.length zs.length).take q))∧Upd wo.heap.size w2.heap.size w2 w3) (fun i _=>k -(intOf i).toNat)
     case atStart=>exact⟨0,Nat.zero_le _,rfl,Dp,Upd.refl _ _ _⟩
     case round=>
      obtain⟨q,hq,rfl,wy,LB⟩:=hrel;obtain⟨w3,rfl⟩:∃w3,w3=wr:=⟨wr,rfl⟩;have Hg:=LB.size;by_cases hlq:q<k
      ·have Kw:q <(frs zs ys zs.length zs.length).length:=by rw[HM.out];omega
       have Ww:q<m:=by omega
       obtain⟨x,HX⟩:∃x,Hid ((frs zs ys zs.length zs.length)[q]'(Kw)=x):=⟨_,rfl⟩;have yl:=x.2.1;have pr:=x.2.2;have bu:cF w.heap.size w1.heap.size w3 (.slice fa m fc) (frI zs ys zs.length zs.length):=(hO.below ba).upd LB (.inl NO);obtain⟨_,_,he,hs⟩:=bu.shape;simp only[Value.slice.injEq]at he;obtain⟨rfl,QE,rfl⟩:=he;obtain⟨fb,fo,rfl,Kl,xq,YC,sq⟩:=hs (by omega);have g1:=(sq q (by omega)).1;rw[aJH zs ys q Kw,HX.out]at g1;have qk:=wy.stored2 x.1 pr 1 (by omega);obtain⟨lb,lo',rfl,d8,Cz,c1,c2,NL,NM⟩:=qk;have HT:Hid (mO zs ((frs zs ys zs.length zs.length).take (q+1))=(mO zs ((frs zs ys zs.length zs.length).take q)).set x.1 1):=by
        rw[aGK zs ys q Kw,vJ,HX.out];rfl
       have lr:Hid _:=NL;have pu:Hid _:=NM;have je:(q:Int) <(m:Int):=by omega
       have AK:(x.1:Int) <(zs.length:Int):=by omega
       have Ko:(q:Int) <(k:Int):=by omega
       generalize (mO zs ((frs zs ys zs.length zs.length).take q)).getD x.1 0=cv at *;generalize x.1=xv at *;clear QE hs sq bu NL NM wy Dp HX Kw;go_wp2;go_roundw
       case rel=>exact⟨q+1,by omega,by go_num,by rw[HT.out];exact lr.out,LB.trans pu.out⟩
       case measure=>simp[intOf];omega
      ·have M6:q=k:=by omega
       subst M6;have ah:=pP zs ((frs zs ys zs.length zs.length).take q);have fw:((frs zs ys zs.length zs.length).take q).length=q:=by rw[List.length_take,HM.out];omega
       have bu:cF w.heap.size w1.heap.size w3 (.slice fa m fc) (frI zs ys zs.length zs.length):=(hO.below ba).upd LB (.inl NO);have ce:Bl w w3:=(hb.trans (ba.mono hb.size)).trans (LB.below hb.size (by omega));have Vp:=ba.size;clear hO Dp hlq hq;go_wp2_with fail;refine(aAX _ _ _ wy.nts (by omega)).mono ?_;rintro e w4 ⟨u,rfl,li,jq⟩;rw[ah]at li;have Fg:fB w3.heap.size w4 u (rnO zs ((frs zs ys zs.length zs.length).take q)):=li;obtain⟨ra,rc,rfl⟩:=Fg.shape;have jm:=bu.below jq;have MI:=ce.trans (jq.mono ce.size);have yh:=jq.size;have qv:=tC zs ((frs zs ys zs.length zs.length).take q);have SU:Hid (good zs ((frs zs ys zs.length zs.length).take q)=decide ((rnO zs ((frs zs ys zs.length zs.length).take q)).length≤20*q)):=by unfold good;rw[fw];rfl
       clear li bu wy ah ce jq ba LB;by_cases ie:(rnO zs ((frs zs ys zs.length zs.length).take q)).length≤20*q
       ·have qp:kY zs ys=some (q-1):=sU (by rw[HM.out];omega) (by rw[show q-1+1=q by omega,SU.out];exact decide_eq_true ie) (fun i hi=>Bk i (by omega))
        obtain⟨f1,f2,f3⟩:=xC kg qp;rw[show q-1+1=q by omega]at f1 f2;have el:=jm.take q (by omega);have Ra:(frI zs ys zs.length zs.length).take q=plP zs ys:=by rw[f1,frI,List.map_take]
        rw[Ra]at el;have qi:(plP zs ys).length=q:=by rw[←Ra,List.length_take,aCK,HM.out];omega
        have Dq:=Fg.own;have Qo:((rnO zs ((frs zs ys zs.length zs.length).take q)).length:Int)≤20*(q:Int):=by omega
        rw[←f2]at Dq;have sk:Hid (plR zs ys=rnO zs ((frs zs ys zs.length zs.length).take q)):=f2;have Ol:Hid (plC zs ys=0):=f3;have Eo:Hid ((plP zs ys).length=q):=qi;have YR:q≤fc:=by omega
        have Wv:(q:Int)≤(fc:Int):=by omega
        clear ie qp f1 f2 f3 Ra qi jm Fg Bk fw;go_wp2;refine bodyPost_ret (v:=.tuple #[.slice fa q fc,.slice ra (rnO zs ((frs zs ys zs.length zs.length).take q)).length rc,.int .i64 0]) (by simp[results,Tryz.results63,go_sem]) rfl ⟨fa,fc,ra,rc,w.heap.size,w1.heap.size,w3.heap.size,w4.heap.size,by rw[Ol.out,sk.out,Eo.out],nR _,by omega,by omega,nR _,.inl (by omega),by rw[Eo.out];exact el,by rw[sk.out]at Dq ⊢;exact Dq,MI⟩
       ·have Ar:good zs ((frs zs ys zs.length zs.length).take q)=false:=by rw[SU.out];exact decide_eq_false ie
        have Qo:¬((rnO zs ((frs zs ys zs.length zs.length).take q)).length:Int)≤20*(q:Int):=by omega
        have Uj:Hid (∀j,j+1<q+1→good zs ((frs zs ys zs.length zs.length).take (j+1))=false):=fun j hj=>by
         by_cases e:j+1<q
         ·exact Bk j e
         ·rw[show j+1=q by omega];exact Ar
        clear ie Ar Fg Bk fw;go_wp2;go_roundw
        case rel=>exact⟨q+1,by omega,by omega,by go_num,jm,MI,by omega,Uj.out⟩
        case measure=>simp[intOf];omega
  ·have EV:k=m+1:=by omega
   have Hb:kY zs ys=none:=sT fun j hj=>Bk j (by rw[HM.out]at hj;omega);obtain⟨f1,f2,f3⟩:=xB kg Hb;have HF:Hid (plP zs ys=[]∧plR zs ys=[]∧plC zs ys=7):=⟨f1,f2,f3⟩;have lk:=hb.size;clear Bk Hb f1 f2 f3 hO;go_wp2;refine bodyPost_ret (v:=.tuple #[.slice none 0 0,.slice none 0 0,.int .i64 7]) (by simp[results,Tryz.results63,go_sem]) rfl ?_;rw[HF.out.1,HF.out.2.1,HF.out.2.2];exact⟨none,0,none,0,w.heap.size,w.heap.size,w.heap.size,w.heap.size,rfl,nR _,lk,nR _,lk,.inl (nR _),cF.empty _ _ _ _ _,aFI.empty _ _ _ _ _,hb⟩
section
variable {P : Program} {ops : Array Oper} {Q : Exit → Act → World → Prop} {md : Region.Mode} {S : World → Prop} {L : Nat}
def fH(P:Program)(md:Region.Mode)(ops:Array Oper)(Q:Exit→Act→World→Prop)(S:World→Prop)(L:Nat):Nat→Array Bool→Act→World→Prop
 | 0,listed,a,w=>Region.ready md ops listed=[]∧Q .normal a w
 | fuel+1,listed,a,w=>
  (Region.ready md ops listed=[]→Q .normal a w)∧
  ∀i∈Region.ready md ops listed,wpOp P ops Q i (fun a' w'=>(i<L→S w')∧fH P md ops Q S L fuel (listed.setIfInBounds i true) a' w') a w
theorem tW:∀(fuel:Nat) (listed:Array Bool) (a:Act) (w:World),fH P md ops Q S L fuel listed a w→wpAny P md ops Q fuel listed a w
 | 0,_,_,_,h=>h
 | fuel+1,_,_,_,h=>⟨h.1,fun i hi=>wpOp_mono (fun a' w' h'=>tW fuel _ a' w' h'.2) (h.2 i hi)⟩
theorem fW{i:Nat}{oi:Oper}{fuel:Nat}{listed:Array Bool}{a:Act}{w:World}(hr:Region.ready md ops listed=[i])(hi:ops[i]?=some oi)(hg:oi.guard=none)
  (h:∀K':Act→World→Prop,(∀a' w',(i<L→S w')→fH P md ops Q S L fuel (listed.setIfInBounds i true) a' w'→K' a' w')→oi.wp P a w K' Q):fH P md ops Q S L (fuel+1) listed a w:=by
 refine⟨fun h0=>by simp[hr]at h0,fun j hj=>?_⟩;rw[hr]at hj;simp only[List.mem_singleton]at hj;subst hj;unfold wpOp;simp only[hi];rw[if_pos (by simp[Region.wanted,hg])];exact .inl (h _ fun _ _ h1 h2=>⟨h1,h2⟩)
theorem pV{listed:Array Bool}{a:Act}{w:World}(hr:Region.ready md ops listed=[])(h:Q .normal a w):∀fuel,fH P md ops Q S L fuel listed a w
 | 0=>⟨hr,h⟩
 | _+1=>⟨fun _=>h,by rw[hr];simp⟩
theorem pW(S:World→Prop)(L:Nat){id:Nat}{a:Act}{w:World}(hm:P.follows .mixedOrders=true)
  (h:fH P .any ops Q S L ops.size (Array.replicate ops.size false) a w.drew):(Code.region id ops true).wp P Q a w:=
 wp_region_any hm (tW _ _ _ _ h)
theorem aBY{i fd:Nat}(fg:∀k,L≤k→k<ops.size→dep md ops fd k i=true){oi:Oper}{v:Value}(hi:ops[i]?=some oi)(uo:∀(j:Nat) (o:Oper) cs b,ops[j]?=some o→o.op≠.select cs b)
  (hQ:∀c a w,Q (.panic c) (a.put oi.dst v) w→Q (.panic c) a w) (fuel:Nat):
  ∀(listed:Array Bool) (a:Act) (w:World),kK md ops listed→
   (∀j oj,ops[j]?=some oj→j≠i→listed.getD j true=false→(∀e∈oj.after,Region.binds md e=true→e.on≠i)→oi.apart ops oj=true)→
   i∈Region.ready md ops listed→YieldsIf P ops S oi v a→S w→
   fH P md ops Q S L fuel (listed.setIfInBounds i true) (a.put oi.dst v) w→fH P md ops Q S L (fuel+1) listed a w:=by
 induction fuel with
 | zero=>
  intro listed a w _ _ hr hy hS H;refine⟨fun h=>by simp[h]at hr,fun j hj=>?_⟩;by_cases dq:j=i
  ·subst dq
   exact hy.wpOp hi hS ⟨fun _=>hS,H⟩
  ·have hm:=ready_mono hj dq
   simp[H.1]at hm
 | succ fuel ih=>
  intro listed a w au mu hr hy hS H;refine⟨fun h=>by simp[h]at hr,fun j hj=>?_⟩;by_cases dq:j=i
  ·subst dq
   exact hy.wpOp hi hS ⟨fun _=>hS,H⟩
  ·have WY:j<ops.size:=by
    obtain⟨_,oj,AW,_⟩:=mem_ready.1 hj;exact(Array.getElem?_eq_some_iff.1 AW).1
   have Ml:j<L:=Nat.lt_of_not_le fun e=>dq (uV au (fg j e WY) hr hj).symm;obtain⟨uh,oj,AW,ay⟩:=mem_ready.1 hj;have Bm:∀e∈oj.after,Region.binds md e=true→e.on≠i:=fun e he hb GD=>by
    have h1:=ay e he hb;have h0:=(mem_ready.1 hr).1;rw[GD]at h1;simp only[Array.getD_eq_getD_getElem?]at h0 h1;cases hx:listed[i]? with
    | none=>simp[hx]at h0
    | some b=>simp[hx]at h0 h1;rw[h0]at h1;cases h1
   have h2:=wpOp_putIf AW (mu j oj AW dq uh Bm) (fun cs b=>uo i oi cs b hi) (fun cs b=>uo j oj cs b AW) hQ hy (H.2 j (ready_mono hj dq));refine wpOp_mono (fun a' w' h3=>?_) h2;obtain⟨pn,BP,hE⟩:=h3;refine⟨BP,ih (listed.setIfInBounds j true) a' w' (au.step hj) (fun k ok hk lm GP kv=>mu k ok hk lm ?_ kv) (ready_mono hr (Ne.symm dq)) pn (BP Ml) ?_⟩
   ·by_cases hjk:j=k
    ·exact hjk▸uh
    ·rwa [getD_set_ne true hjk]at GP
   ·rw[Array.setIfInBounds_comm _ _ dq]
    exact hE
theorem dD{i:Nat}{oi:Oper}(t:Nat)(v:Value){fuel:Nat}{listed:Array Bool}{a:Act}{w:World}(fg:((List.range ops.size).all fun k=>decide (k<L) || dep md ops ops.size k i)=true)(pp:wF md ops listed=true)(hi:ops[i]?=some oi)
  (hs:Region.noSelect ops=true) (hf:Region.free md ops listed i=true) (hr:(Region.ready md ops listed).contains i=true)
  (hQ:∀c a w,Q (.panic c) (a.put oi.dst v) w→Q (.panic c) a w) (hg:oi.guard=none) (ht:oi.dst=some t) (hS:S w) (hy:∀w,S w→(execOp a.eval oi).run P w=.ok (.value v) w)
  (h:fH P md ops Q S L fuel (listed.setIfInBounds i true) (a.put (some t) v) w):fH P md ops Q S L (fuel+1) listed a w:=
 aBY (fd:=ops.size) (fun k hk hs=>by have:=List.all_eq_true.1 fg k (List.mem_range.2 hs);simp only[Bool.or_eq_true,decide_eq_true_eq]at this;exact this.resolve_left (by omega)) hi (Region.noSelect_spec hs) hQ fuel listed a w (mW pp) (Region.free_spec hi hf) (by simpa using hr) (.inl ⟨by simp[Region.wanted,hg],hy⟩) hS (by rw[ht];exact h)
theorem aAA{i:Nat}(OQ:L≤i){oi:Oper}{v:Value}(hi:ops[i]?=some oi)(uo:∀(j:Nat) (o:Oper) cs b,ops[j]?=some o→o.op≠.select cs b)
  (hQ:∀c a w,Q (.panic c) (a.put oi.dst v) w→Q (.panic c) a w) (fuel:Nat):
  ∀(listed:Array Bool) (a:Act) (w:World),
   (∀j oj,ops[j]?=some oj→j≠i→listed.getD j true=false→(∀e∈oj.after,Region.binds md e=true→e.on≠i)→oi.apart ops oj=true)→
   i∈Region.ready md ops listed→YieldsIf P ops (fun _=>True) oi v a→
   fH P md ops Q S L fuel (listed.setIfInBounds i true) (a.put oi.dst v) w→fH P md ops Q S L (fuel+1) listed a w:=by
 induction fuel with
 | zero=>
  intro listed a w _ hr hy H;refine⟨fun h=>by simp[h]at hr,fun j hj=>?_⟩;by_cases dq:j=i
  ·subst dq
   exact hy.wpOp hi trivial ⟨fun q=>absurd q (by omega),H⟩
  ·have hm:=ready_mono hj dq
   simp[H.1]at hm
 | succ fuel ih=>
  intro listed a w mu hr hy H;refine⟨fun h=>by simp[h]at hr,fun j hj=>?_⟩;by_cases dq:j=i
  ·subst dq
   exact hy.wpOp hi trivial ⟨fun q=>absurd q (by omega),H⟩
  ·obtain⟨uh,oj,AW,ay⟩:=mem_ready.1 hj
   have Bm:∀e∈oj.after,Region.binds md e=true→e.on≠i:=fun e he hb GD=>by
    have h1:=ay e he hb;have h0:=(mem_ready.1 hr).1;rw[GD]at h1;simp only[Array.getD_eq_getD_getElem?]at h0 h1;cases hx:listed[i]? with
    | none=>simp[hx]at h0
    | some b=>simp[hx]at h0 h1;rw[h0]at h1;cases h1
   have h2:=wpOp_putIf AW (mu j oj AW dq uh Bm) (fun cs b=>uo i oi cs b hi) (fun cs b=>uo j oj cs b AW) hQ hy (H.2 j (ready_mono hj dq));refine wpOp_mono (fun a' w' h3=>?_) h2;obtain⟨pn,BP,hE⟩:=h3;refine⟨BP,ih (listed.setIfInBounds j true) a' w' (fun k ok hk lm GP kv=>mu k ok hk lm ?_ kv) (ready_mono hr (Ne.symm dq)) pn ?_⟩
   ·by_cases hjk:j=k
    ·exact hjk▸uh
    ·rwa [getD_set_ne true hjk]at GP
   ·rw[Array.setIfInBounds_comm _ _ dq]
    exact hE
theorem tV{i:Nat}{oi:Oper}(t:Nat)(v:Value){fuel:Nat}{listed:Array Bool}{a:Act}{w:World}(OQ:L≤i)(hi:ops[i]?=some oi)
  (hs:Region.noSelect ops=true) (hf:Region.free md ops listed i=true) (hr:(Region.ready md ops listed).contains i=true)
  (hQ:∀c a w,Q (.panic c) (a.put oi.dst v) w→Q (.panic c) a w) (hg:oi.guard=none) (ht:oi.dst=some t) (hy:∀w,(execOp a.eval oi).run P w=.ok (.value v) w)
  (h:fH P md ops Q S L fuel (listed.setIfInBounds i true) (a.put (some t) v) w):fH P md ops Q S L (fuel+1) listed a w:=
 aAA OQ hi (Region.noSelect_spec hs) hQ fuel listed a w (Region.free_spec hi hf) (by simpa using hr) (.inl ⟨by simp[Region.wanted,hg],fun w _=>hy w⟩) (by rw[ht];exact h)
end
