import Derived.RangeFuncBox
import Derived.Maps.AppendAt
import Derived.Test.YtaahkgkdpnnhhaaGreatFr3
set_option maxHeartbeats 9999999
set_option maxRecDepth 99999
set_option linter.all false
namespace Go.Proofs.YtaahkgkdpnnhhaaGreat
open Go.RowKit Go.Shelf
theorem cB{W W':World}{B:Nat}{t:TypeId}{v:Value}(h:Boxed W B t v)(k:Bl W W'):Boxed W' B t v:=(k.block B h.lt).trans h
theorem aFH{β:Type}(lo hi:Nat)(v:Value)(f:β→List Int):Own (fun s W=>aY lo hi W v (f s)):=by
 rintro s X Y row h hg hrow;obtain⟨a,cap,hv,hc⟩:=h.shape;refine⟨h.small,a,cap,hv,fun hp=>?_⟩;obtain⟨b,off,ha,h1,h2,h3,hcell⟩:=hc hp;refine⟨b,off,ha,h1,h2,lL h3 hg.size,fun i hi=>?_⟩;obtain⟨e1,e2⟩:=hcell i hi;exact⟨cell_kept e1 hg hrow,(frozen_kept e1 hg hrow).trans e2⟩
structure PlS(w:World)(s g cap:Nat)(cs ct:Value)(zs:List Int)(pre:List (Blk zs.length))(v:Value)(W:World):Prop where
 plan:Boxed W (s+1) 24 v
 row:W.ownsRow s 2 1 v pre.length (pre.map fun x=>Value.int .i64 (x.1:Int))
 cbox:Boxed W s 24 (.slice (some ⟨g,0,none⟩) zs.length cap)
 cnt:aY g (g+1) W (.slice (some ⟨g,0,none⟩) zs.length cap) (mU zs pre)
 r0:Boxed W w.heap.size 24 (.slice none 0 0)
 r1:Boxed W (w.heap.size+1) 95 (.slice none 0 0)
 r2:Boxed W (w.heap.size+1+1) 2 (.int .i64 0)
 bs:Boxed W (s+1+1) 24 cs
 bt:Boxed W (s+1+1+1) 24 ct
 bel:Bl w W
theorem aIK{w:World}{s g cap:Nat}{cs ct:Value}{zs:List Int}(hs:w.heap.size≤s):OwnFrom s (fun(pre:List (Blk zs.length)) W=>∃v,PlS w s g cap cs ct zs pre v W):=by
 rintro pre X Y row ⟨v,h⟩ hg hr;have hr':∀r,row=some r→∃o:Obj,X.heap[r]?=some o∧o.isCells=false:=fun r e=>(hr r e).2;obtain⟨v',e1,e2,e3⟩:=holdsRow_own (β:=Unit) s (s+1) 24 2 1 (fun _=>pre.length) (fun _=>pre.map fun x=>Value.int .i64 (x.1:Int)) (fun _ u=>u=v) () X Y row ⟨v,h.plan,h.row,rfl⟩ hg hr';subst e3;exact⟨v',e1,e2,boxed_own (β:=Unit) _ _ (fun _=>_) () X Y row h.cbox hg hr',aFH (β:=Unit) _ _ _ (fun _=>mU zs pre) () X Y row h.cnt hg hr',boxed_own (β:=Unit) _ _ (fun _=>_) () X Y row h.r0 hg hr',boxed_own (β:=Unit) _ _ (fun _=>_) () X Y row h.r1 hg hr',boxed_own (β:=Unit) _ _ (fun _=>_) () X Y row h.r2 hg hr',boxed_own (β:=Unit) _ _ (fun _=>_) () X Y row h.bs hg hr',boxed_own (β:=Unit) _ _ (fun _=>_) () X Y row h.bt hg hr',ownFrom_below (β:=Unit) (nR _) hs () X Y row h.bel hg hr⟩
theorem PlS.appended{w W w1:World}{s g cap:Nat}{cs ct:Value}{zs:List Int}{pre:List (Blk zs.length)}{v v':Value}{tmp:Obj}{x:Blk zs.length}(h:PlS w s g cap cs ct zs pre v W)(hs:w.heap.size+3<s)(hg:g<s)(hgw:w.heap.size+3<g)
  (hown:w1.ownsRow s 2 1 v' (pre.length+1) ((pre.map fun x=>Value.int .i64 (x.1:Int))++[.int .i64 (x.1:Int)])) (hgrow:(W.alloc tmp).grownBy w1 v.ownBlock):
  Boxed w1 (s+1) 24 v∧Boxed (w1.setCell ⟨s+1,0,none⟩ v') (s+1) 24 v'∧(w1.setCell ⟨s+1,0,none⟩ v').ownsRow s 2 1 v' (pre++[x]).length ((pre++[x]).map fun x=>Value.int .i64 (x.1:Int))∧
  Boxed (w1.setCell ⟨s+1,0,none⟩ v') s 24 (.slice (some ⟨g,0,none⟩) zs.length cap)∧aY g (g+1) (w1.setCell ⟨s+1,0,none⟩ v') (.slice (some ⟨g,0,none⟩) zs.length cap) (mU zs pre)∧
  Boxed (w1.setCell ⟨s+1,0,none⟩ v') w.heap.size 24 (.slice none 0 0)∧Boxed (w1.setCell ⟨s+1,0,none⟩ v') (w.heap.size+1) 95 (.slice none 0 0)∧Boxed (w1.setCell ⟨s+1,0,none⟩ v') (w.heap.size+1+1) 2 (.int .i64 0)∧
  Boxed (w1.setCell ⟨s+1,0,none⟩ v') (s+1+1) 24 cs∧Boxed (w1.setCell ⟨s+1,0,none⟩ v') (s+1+1+1) 24 ct∧Below s W (w1.setCell ⟨s+1,0,none⟩ v')∧KeepsOthers W (w1.setCell ⟨s+1,0,none⟩ v'):=by
 have hsW:s≤W.heap.size:=by have:=h.cbox.lt;omega
 obtain⟨e1,e2,e3,e4,e5⟩:=h.plan.appended (by decide) h.row hsW (by omega) hown hgrow;have hkeep:∀{B:Nat} {u:Value},Boxed W B 24 u→B≠s+1→Boxed (w1.setCell ⟨s+1,0,none⟩ v') B 24 u:=fun hb hne=>((hb.alloc tmp).kept hgrow (hb.not_row (by decide) h.row)).other hne _;have hlow:∀{B:Nat} {t:TypeId} {u:Value},Boxed W B t u→B<s→Boxed (w1.setCell ⟨s+1,0,none⟩ v') B t u:=fun hb hB=>(e5.block _ hB).trans hb;exact⟨e1,e2,by simpa using e3,hkeep h.cbox (by omega),h.cnt.kept e5.size fun b h1 h2 _=>e5.block b (by omega),hlow h.r0 (by omega),hlow h.r1 (by omega),hlow h.r2 (by omega),hkeep h.bs (by omega),hkeep h.bt (by omega),e5,e4⟩
theorem PlS.mid{w W w1:World}{s g cap:Nat}{cs ct:Value}{zs:List Int}{pre:List (Blk zs.length)}{v:Value}{tmp:Obj}(x:Blk zs.length)(h:PlS w s g cap cs ct zs pre v W)(hg:g<s)(hgrow:(W.alloc tmp).grownBy w1 v.ownBlock):
  w1.cell? ⟨s,0,none⟩=some (.slice (some ⟨g,0,none⟩) zs.length cap)∧w1.cell? ⟨g,x.1,none⟩=some (.int .i64 ((mU zs pre).getD x.1 0))∧w1.frozen? ⟨g,x.1,none⟩=false:=by
 have e1:Boxed w1 s 24 (.slice (some ⟨g,0,none⟩) zs.length cap):=(h.cbox.alloc tmp).kept hgrow (h.cbox.not_row (by decide) h.row);have hgb:w1.heap[g]?=W.heap[g]?:=by
  have hgW:g<W.heap.size:=by have:=h.cbox.lt;omega
  rw[hgrow.block g (by simp;omega) (fun e=>?_)]
  ·exact Below.heap_alloc W tmp g hgW
  ·rcases h.row.2 with⟨rfl,_⟩ | ⟨gg,_,_,rfl,hb,_⟩
   ·simp[Value.ownBlock]at e
   ·simp[Value.ownBlock]at e;omega
 have hge:∀b,g≤b→b<g+1→b<W.heap.size→w1.heap[b]?=W.heap[b]?:=fun b h1 h2 _=>by rw[show b=g by omega];exact hgb
 have e2:=h.cnt.kept (w':=w1) (by have:=hgrow.size;simp at this;omega) hge;obtain⟨_,_,he,hs⟩:=e2.shape;simp only[Value.slice.injEq]at he;obtain⟨rfl,he2,rfl⟩:=he;have hx:=x.2.2;obtain⟨_,_,he,_,_,_,h4⟩:=hs (by omega);simp only[sJ,Addr.mk.injEq,and_true]at he;obtain⟨rfl,rfl⟩:=he;obtain⟨q1,q2⟩:=h4 x.1 (by omega);rw[Nat.zero_add]at q1 q2;exact⟨e1.cell,q1,q2⟩
theorem nX{W W':World}(h:Bl W W'):KeepsOthers W W':=⟨h.size,fun k o hk _=>(h.block k (Array.getElem?_eq_some_iff.1 hk).1).trans hk⟩
theorem aEW{w W W':World}{s g cap:Nat}{cs ct:Value}{zs:List Int}{pre:List (Blk zs.length)}{v:Value}(h:PlS w s g cap cs ct zs pre v W)(k:Bl W W'):PlS w s g cap cs ct zs pre v W':=
 ⟨cB h.plan k,by
  rcases h.row.2 with e | ⟨gg,cc,cu,hv,e1,e2,e3⟩
  ·exact⟨h.row.1,.inl e⟩
  ·exact⟨h.row.1,.inr ⟨gg,cc,cu,hv,e1,(k.block gg (Array.getElem?_eq_some_iff.1 e2).1).trans e2,e3⟩⟩,cB h.cbox k,h.cnt.below k,cB h.r0 k,cB h.r1 k,cB h.r2 k,cB h.bs k,cB h.bt k,h.bel.trans (k.mono h.bel.size)⟩
theorem PlS.next{w W w1:World}{s g cap:Nat}{cs ct:Value}{zs:List Int}{pre:List (Blk zs.length)}{v v':Value}{tmp:Obj}{x:Blk zs.length}(h:PlS w s g cap cs ct zs pre v W)(hs:w.heap.size+3<s)(hg:g<s)(hgw:w.heap.size+3<g)
  (hown:w1.ownsRow s 2 1 v' (pre.length+1) ((pre.map fun x=>Value.int .i64 (x.1:Int))++[.int .i64 (x.1:Int)])) (hgrow:(W.alloc tmp).grownBy w1 v.ownBlock):
  PlS w s g cap cs ct zs (pre++[x]) v' ((w1.setCell ⟨s+1,0,none⟩ v').setCell ⟨g,x.1,none⟩ (.int .i64 1))∧KeepsOthers W ((w1.setCell ⟨s+1,0,none⟩ v').setCell ⟨g,x.1,none⟩ (.int .i64 1))∧
   Below w.heap.size W ((w1.setCell ⟨s+1,0,none⟩ v').setCell ⟨g,x.1,none⟩ (.int .i64 1)):=by
 obtain⟨p1,p2,p3,p4,p5,p6,p7,p8,p9,p10,p11,p12⟩:=h.appended hs hg hgw hown hgrow;have hx:=x.2.2;have hst:=p5.stored x.1 hx 1 (by omega);rw[Nat.zero_add,←vU]at hst;have hk:∀{B:Nat} {t:TypeId} {u:Value},Boxed (w1.setCell ⟨s+1,0,none⟩ v') B t u→B≠g→Boxed ((w1.setCell ⟨s+1,0,none⟩ v').setCell ⟨g,x.1,none⟩ (.int .i64 1)) B t u:=fun hb hne=>(Below.heap_setCell _ _ _ _ hne).trans hb;have hB:Below w.heap.size W ((w1.setCell ⟨s+1,0,none⟩ v').setCell ⟨g,x.1,none⟩ (.int .i64 1)):=(p11.mono (by omega)).setCell (p:=⟨g,x.1,none⟩) (by show w.heap.size≤g;omega) _;refine⟨⟨hk p2 (by omega),?_,hk p4 (by omega),hst.1,hk p6 (by omega),hk p7 (by omega),hk p8 (by omega),hk p9 (by omega),hk p10 (by omega),h.bel.trans hB⟩,p12.trans (KeepsOthers.setCell _ _ _),hB⟩;rcases p3.2 with e | ⟨gg,cc,cu,hv,e1,e2,e3⟩
 ·exact⟨p3.1,.inl e⟩
 ·exact⟨p3.1,.inr ⟨gg,cc,cu,hv,e1,(Below.heap_setCell _ _ _ _ (by show gg≠g;omega)).trans e2,e3⟩⟩
theorem PlS.kp{w W W':World}{s g cap:Nat}{cs ct:Value}{zs:List Int}{pre pre':List (Blk zs.length)}{v v':Value}(h:PlS w s g cap cs ct zs pre v W)(h':PlS w s g cap cs ct zs pre' v' W')(hb:Below w.heap.size W W'):KpF w.heap.size (s+1+1) (s+1+1+1) W W':=
 ⟨hb,h'.bs.trans h.bs.symm,h'.bt.trans h.bt.symm⟩
def PlE(w:World)(s:Nat)(zs:List Int)(pre:List (Blk zs.length))(W:World):Prop:=
 ∃p q,Boxed W w.heap.size 24 p∧Boxed W (w.heap.size+1) 95 q∧Boxed W (w.heap.size+1+1) 2 (.int .i64 0)∧W.ownsRow s 2 1 p pre.length (pre.map fun x=>Value.int .i64 (x.1:Int))∧W.ownsRow s 165 3 q (rnO zs pre).length (eT (rnO zs pre))∧Bl w W
theorem eV{W:World}{s:Nat}{e:TypeId}{size:Nat}{v:Value}{k:Nat}{xs:List Value}(h:W.ownsRow s e size v k xs){p:Addr}(hp:p.block<s)(u:Value):(W.setCell p u).ownsRow s e size v k xs:=by
 rcases h.2 with e | ⟨gg,cc,cu,hv,e1,e2,e3⟩
 ·exact⟨h.1,.inl e⟩
 ·exact⟨h.1,.inr ⟨gg,cc,cu,hv,e1,(Below.heap_setCell _ _ _ _ (by omega)).trans e2,e3⟩⟩
theorem rA{W:World}{s s':Nat}{e:TypeId}{size:Nat}{v:Value}{k:Nat}{xs:List Value}(h:W.ownsRow s e size v k xs)(hs:s'≤s):W.ownsRow s' e size v k xs:=by
 rcases h.2 with e | ⟨gg,cc,cu,hv,e1,e3⟩
 ·exact⟨h.1,.inl e⟩
 ·exact⟨h.1,.inr ⟨gg,cc,cu,hv,by omega,e3⟩⟩
theorem PlS.ends{w W:World}{s g cap base:Nat}{cs ct:Value}{zs:List Int}{pre:List (Blk zs.length)}{v q:Value}(h:PlS w s g cap cs ct zs pre v W)(hs:w.heap.size+3<s)(hq:fC base W q (rnO zs pre))(hb:s≤base):
  PlE w s zs pre (((W.setCell ⟨w.heap.size,0,none⟩ v).setCell ⟨w.heap.size+1,0,none⟩ q).setCell ⟨w.heap.size+1+1,0,none⟩ (.int .i64 0)):=by
 have r1:Boxed (W.setCell ⟨w.heap.size,0,none⟩ v) (w.heap.size+1) 95 (.slice none 0 0):=h.r1.other (by omega) _;have r2:Boxed ((W.setCell ⟨w.heap.size,0,none⟩ v).setCell ⟨w.heap.size+1,0,none⟩ q) (w.heap.size+1+1) 2 (.int .i64 0):=(h.r2.other (by omega) _).other (by omega) _;refine⟨v,q,((h.r0.set v).other (by omega) _).other (by omega) _,(r1.set q).other (by omega) _,r2.set _,?_,?_,?_⟩
 ·exact eV (eV (eV h.row (by show w.heap.size<s;omega) _) (by show w.heap.size+1<s;omega) _) (by show w.heap.size+1+1<s;omega) _
 ·exact eV (eV (eV (rA hq hb) (by show w.heap.size<s;omega) _) (by show w.heap.size+1<s;omega) _) (by show w.heap.size+1+1<s;omega) _
 ·exact((h.bel.setCell (p:=⟨w.heap.size,0,none⟩) (nR _) _).setCell (p:=⟨w.heap.size+1,0,none⟩) (by show w.heap.size≤w.heap.size+1;omega) _).setCell (p:=⟨w.heap.size+1+1,0,none⟩) (by show w.heap.size≤w.heap.size+1+1;omega) _
theorem aJC{w:World}{s:Nat}{zs:List Int}(hs:w.heap.size≤s):OwnFrom s (fun(pre:List (Blk zs.length)) W=>PlE w s zs pre W):=by
 rintro pre X Y row ⟨p,q,h0,h1,h2,h3,h4,h5⟩ hg hr;have hr':∀r,row=some r→∃o:Obj,X.heap[r]?=some o∧o.isCells=false:=fun r e=>(hr r e).2;obtain⟨v',e1,e2,e3⟩:=holdsRow_own (β:=Unit) s w.heap.size 24 2 1 (fun _=>pre.length) (fun _=>pre.map fun x=>Value.int .i64 (x.1:Int)) (fun _ u=>u=p) () X Y row ⟨p,h0,h3,rfl⟩ hg hr';subst e3;obtain⟨v2,f1,f2,f3⟩:=holdsRow_own (β:=Unit) s (w.heap.size+1) 95 165 3 (fun _=>(rnO zs pre).length) (fun _=>eT (rnO zs pre)) (fun _ u=>u=q) () X Y row ⟨q,h1,h4,rfl⟩ hg hr';subst f3;exact⟨v',v2,e1,f1,boxed_own (β:=Unit) _ _ (fun _=>_) () X Y row h2 hg hr',e2,f2,ownFrom_below (β:=Unit) (nR _) hs () X Y row h5 hg hr⟩
theorem aEJ{n:Nat}{zs:List Int}{pre:List (Blk n)}{x:Blk n}(h:∀j,j<pre.length→good zs (pre.take (j+1))=false)(hx:good zs (pre++[x])=false):∀j,j <(pre++[x]).length→good zs ((pre++[x]).take (j+1))=false:=fun j hj=>by
 by_cases e:j<pre.length
 ·rw[List.take_append_of_le_length (by omega)];exact h j e
 ·rw[List.take_of_length_le (by simp at hj ⊢;omega)];exact hx
attribute [local go_sem] Oper.semAt_some
theorem yV(F:Fence)(n:Nat)(hW:∀{n f args w R},Calls Tryz.prog f args w R→CallsIn F n Tryz.prog f args w R)(hfn:∀f,F.fn f)(hro:F.round=none)(hn:3≤n)(a a':Option Addr)(c c':Nat)(zs ys:List Int)(w:World)(hv:Nts w (.slice a zs.length c) zs)(hv':Nts w (.slice a' ys.length c') ys)(hok:chk [zs,ys]=0):
  CallsIn F n Tryz.prog 146 #[.slice a zs.length c,.slice a' ys.length c'] w fun e w'=>∃u v,e=.returned (.tuple #[u,v,.int .i64 (plC zs ys)])∧dD w.heap.size w' u (plP zs ys)∧fC w.heap.size w' v (plR zs ys)∧Bl w w':=by
 obtain⟨hl,hc1,hc2⟩:=nC hok;have hz:=(aAP hc1).1;have HL:Hid (ys.length=zs.length):=hl.symm;have hn1:1≤n:=by omega
 clear hc1 hc2 hl;have g1:=hfn 154;have g2:=hfn 148;have g3:=hfn 131;refine callsIn_of_wp_marks Tryz.func146 rfl (hfn _) ?_ hro;simp only[Tryz.ntmps146,List.size_toArray,List.length_cons,List.length_nil,Nat.reduceAdd,Nat.reduceSub,Array.replicate_succ,Array.replicate_zero,List.push_toArray,List.append_toArray,List.nil_append,List.cons_append];gi_wp2_with fail;have b0:=((Boxed.new w 24 (.slice none 0 0)).alloc (.cells #[.slice none 0 0] 95)).alloc (.cells #[.int .i64 0] 2);have b1:=(Boxed.new (w.alloc (.cells #[.slice none 0 0] 24)) 95 (.slice none 0 0)).alloc (.cells #[.int .i64 0] 2);have b2:=Boxed.new ((w.alloc (.cells #[.slice none 0 0] 24)).alloc (.cells #[.slice none 0 0] 95)) 2 (.int .i64 0);simp only[World.size_alloc]at b1 b2;have hB0:Bl w (((w.alloc (.cells #[.slice none 0 0] 24)).alloc (.cells #[.slice none 0 0] 95)).alloc (.cells #[.int .i64 0] 2)):=(((bQ _ w).alloc (nR _) _).alloc (by simp) _).alloc (by simp;omega) _;refine(hW (pY _ [zs,ys] _ (LRd.two (hv.below hB0) (hv'.below hB0) _ _ (by simp)) (by simp) (by simp) (aEI (by omega) (by rw[HL.out];omega)))).mono ?_;rintro e w1 ⟨rfl,hw1⟩;rw[hok];have r0:=(b0.alloc (.cells #[.slice a zs.length c,.slice a' ys.length c'] 24));have r1:=(b1.alloc (.cells #[.slice a zs.length c,.slice a' ys.length c'] 24));have r2:=(b2.alloc (.cells #[.slice a zs.length c,.slice a' ys.length c'] 24));have hB1:=hB0.trans ((iK _ (.cells #[.slice a zs.length c,.slice a' ys.length c'] 24)).mono hB0.size);rw[hw1]at r0 r1 r2 hB1;have hs1:w.heap.size+3<w1.heap.size:=by rw[←hw1];simp
 clear hw1 b0 b1 b2 hB0;gi_wp2_with fail;refine(hW (pJ _ _ zs _ (by omega) (by omega) (hv.below hB1))).mono ?_;rintro e w2 ⟨u,rfl,hR2,hB2⟩;obtain⟨g,cap,rfl⟩:∃g cap,u=.slice (some ⟨g,0,none⟩) zs.length cap:=by
  obtain⟨m,hm⟩:∃m,zs.length=m+1:=⟨zs.length-1,by omega⟩;have hR3:=hR2;unfold dD at hR3;rw[hm]at hR3 ⊢;exact ownsRow_succ hR3
 gi_wp2_with (gi_at_call 131;refine(iY F (n-1) g3 hro _ _ _ ⟨_,_,_,rfl⟩ ⟨_,_,_,rfl⟩).mono ?_;rintro e w' ⟨rfl,rfl⟩)
 have hO2:=hR2.own hv.small;obtain⟨hg1,hg2⟩:w1.heap.size≤g∧g<w2.heap.size:=by
  have:=World.ownsRow.lt hR2 g rfl
  exact this
 have hO3:aY g (g+1) w2 (.slice (some ⟨g,0,none⟩) zs.length cap) zs:=by
  obtain⟨_,_,he,hs⟩:=hO2.shape;refine⟨hv.small,_,_,rfl,fun hp=>?_⟩;simp only[Value.slice.injEq,true_and]at he;obtain⟨rfl,rfl⟩:=he;obtain⟨_,_,he,_,_,h3,h4⟩:=hs hp;simp only[sJ,Addr.mk.injEq,and_true]at he;obtain⟨rfl,rfl⟩:=he;exact⟨g,0,rfl,nR _,Nat.lt_succ_self _,h3,h4⟩
 have bC:=Boxed.new w2 24 (.slice (some ⟨g,0,none⟩) zs.length cap);have bP:=Boxed.new (w2.alloc (.cells #[.slice (some ⟨g,0,none⟩) zs.length cap] 24)) 24 (.slice none 0 0);have bS:=Boxed.new ((w2.alloc (.cells #[.slice (some ⟨g,0,none⟩) zs.length cap] 24)).alloc (.cells #[.slice none 0 0] 24)) 24 (.slice a zs.length c);have bT:=Boxed.new (((w2.alloc (.cells #[.slice (some ⟨g,0,none⟩) zs.length cap] 24)).alloc (.cells #[.slice none 0 0] 24)).alloc (.cells #[.slice a zs.length c] 24)) 24 (.slice a' ys.length c');simp only[World.size_alloc]at bP bS bT;have hBA:Bl w2 ((((w2.alloc (.cells #[.slice (some ⟨g,0,none⟩) zs.length cap] 24)).alloc (.cells #[.slice none 0 0] 24)).alloc (.cells #[.slice a zs.length c] 24)).alloc (.cells #[.slice a' ys.length c'] 24)):=((((bQ _ w2).alloc (nR _) _).alloc (by simp) _).alloc (by simp;omega) _).alloc (by simp;omega) _;have hBw2:=hB1.trans (hB2.mono hB1.size);have hS0:PlS w w2.heap.size g cap (.slice a zs.length c) (.slice a' ys.length c') zs [] (.slice none 0 0) ((((w2.alloc (.cells #[.slice (some ⟨g,0,none⟩) zs.length cap] 24)).alloc (.cells #[.slice none 0 0] 24)).alloc (.cells #[.slice a zs.length c] 24)).alloc (.cells #[.slice a' ys.length c'] 24)):=
  ⟨(bP.alloc _).alloc _,World.ownsRow_nil _ _ _ _,((bC.alloc _).alloc _).alloc _,hO3.below hBA,cB (cB r0 hB2) hBA,cB (cB r1 hB2) hBA,cB (cB r2 hB2) hBA,bS.alloc _,bT,hBw2.trans (hBA.mono hBw2.size)⟩
 have hBw3:=hS0.bel;have hsz:((((w2.alloc (.cells #[.slice (some ⟨g,0,none⟩) zs.length cap] 24)).alloc (.cells #[.slice none 0 0] 24)).alloc (.cells #[.slice a zs.length c] 24)).alloc (.cells #[.slice a' ys.length c'] 24)).heap.size=w2.heap.size+4:=by simp
 obtain⟨W3,hW3⟩:=eZ (((((w2.alloc (.cells #[.slice (some ⟨g,0,none⟩) zs.length cap] 24)).alloc (.cells #[.slice none 0 0] 24)).alloc (.cells #[.slice a zs.length c] 24)).alloc (.cells #[.slice a' ys.length c'] 24)));rw[hW3]at hS0 hBw3 hsz ⊢;have HSZ:Hid (W3.heap.size=w2.heap.size+4):=hsz;have hww2:=hBw2.size;generalize hs:w2.heap.size=s at *;have hsW3:s≤W3.heap.size:=by omega
 have hs3:w.heap.size+3<s:=by omega
 have hgw:w.heap.size+3<g:=by omega
 clear hW3 bC bP bS bT hBA hBw2 hO2 hO3 hR2 hB2 r0 r1 r2 hsz hs hB1;refine wpIn_rangeFunc_ownF hro hn1 (gf:=150) (lb:=#[.pointer (some ⟨s+1+1,0,none⟩),.pointer (some ⟨s+1+1+1,0,none⟩)]) rfl (hfn _) (enters_of Tryz.func150 (by kernel_rfl) rfl)
  (mJ F (n-1) (hfn _) hro (by omega) (s+1+1) (s+1+1+1) w.heap.size a a' c c' zs ys HL.out (by omega) (by omega) W3 (by have:=HSZ.out;omega) (by have:=HSZ.out;omega) (by omega) hS0.bs.cell hS0.bt.cell w hv hv' (by omega) hBw3) KpF.trans (KpF.put (by omega) (by have:=HSZ.out;omega) (by have:=HSZ.out;omega)) (bQ _ _) (fun _=>rfl)
  (fun pre W=>(∃v,PlS w s g cap (.slice a zs.length c) (.slice a' ys.length c') zs pre v W)∧∀j,j<pre.length→good zs (pre.take (j+1))=false)
  (fun k pre W=>PlE w s zs pre W∧(k=.ret∧∃(p:List (Blk zs.length)) (x:Blk zs.length),pre=p++[x]∧good zs pre=true∧∀j:Nat,j<p.length→good zs (p.take (j+1))=false))
  (fun x X Y row hh hg hr=>⟨aIK (by omega) x X Y row hh.1 hg (fun r e=>⟨lT hsW3 (hr r e).1,(hr r e).2⟩),hh.2⟩)
  (fun k x X Y row hh hg hr=>⟨aJC (by omega) x X Y row hh.1 hg (fun r e=>⟨lT hsW3 (hr r e).1,(hr r e).2⟩),hh.2⟩)
  ⟨⟨_,hS0⟩,fun j hj=>by simp at hj⟩
  (fun x=>{tmps:=#[.slice a zs.length c,.slice a' ys.length c',undef,undef,.pointer (some ⟨w.heap.size,0,none⟩),.pointer (some ⟨w.heap.size+1,0,none⟩),.pointer (some ⟨w.heap.size+1+1,0,none⟩),.int .i64 0,.pointer (some ⟨s,0,none⟩),.pointer (some ⟨s+1,0,none⟩),.int .i64 (x.1:Int),undef,.slice a zs.length c,.slice a' ys.length c',.slice (some ⟨w.heap.size+1+1+1,0,none⟩) 2 2,.int .i64 0,.int .i64 0,.bool false,undef,.slice a zs.length c,.slice (some ⟨g,0,none⟩) zs.length cap,.slice a zs.length c,.slice a' ys.length c',.func (.func 150) #[] #[.pointer (some ⟨s+1+1,0,none⟩),.pointer (some ⟨s+1+1+1,0,none⟩)],.int .i64 (x.1:Int),undef,undef,undef,undef,undef,undef,undef,undef,undef,undef,undef,undef,undef,undef,undef,undef,undef],defers:=[]}) ?assign ?body ?done ?stop
 case assign=>
  intro l x W K hK;gi_wp2;exact hK
 case body=>
  rintro l pre x W ⟨⟨v,hP⟩,hng⟩ hplen;obtain⟨i0,hi,hz0,hz1,hz2⟩:=info_parts tE;have hsW:s≤W.heap.size:=by have:=hP.cbox.lt;omega
  have hx1:=x.2.1;have hx2:=x.2.2;have hxi:(x.1:Int) <(zs.length:Int):=by omega
  have hne1:s≠s+1:=by omega
  have hne2:g≠s+1:=by omega
  have hne3:g≠s:=by omega
  have hc0:=hP.plan.cell;obtain⟨va,vc,rfl⟩:∃va vc,v=.slice va pre.length vc:=by
   rcases hP.row.2 with⟨e,e2⟩ | ⟨gg,cc,cu,e,_⟩
   ·exact⟨none,0,by rw[e,e2]⟩
   ·exact⟨_,_,e⟩
  gi_wp2_with (gi_at_builtin;refine wpListIn_append_own _ rfl _ _ 24 rfl s 2 i0 (.int .i64 0) 1 8 Tryz.underlying24 hi hz0 hz1 hz2 rfl (by decide) _ _ _ rfl (World.ownsRow.alloc hP.row _) ⟨W.heap.size,0,none⟩ 1 1 [.int .i64 (x.1:Int)] rfl rfl (cell_one_new _ _ _) (by simp[Value.oneCell']) (by unfold maxLen;omega) (by omega) (by simp;omega) ?_;intro v' w4 hown' hgrow _;obtain⟨g',cap',rfl⟩:=ownsRow_succ hown';obtain⟨p1,-⟩:=hP.appended hs3 hg2 hgw hown' hgrow;have hc1:=p1.cell;have hf1:=p1.frozen;obtain⟨m1,m2,m3⟩:=hP.mid x hg2 hgrow)
  obtain⟨hN,hK,hBN⟩:=hP.next hs3 hg2 hgw hown' hgrow;obtain⟨W5,hW5⟩:=eZ (((w4.setCell ⟨s+1,0,none⟩ (.slice (some ⟨g',0,none⟩) (pre.length+1) cap')).setCell ⟨g,x.1,none⟩ (.int .i64 1)));rw[hW5]at hN hK hBN ⊢;have hlen:=pG zs (pre++[x]);have hKP:=hP.kp hN hBN;clear hW5 hown' hgrow hc0 hc1 hf1 m1 m2 m3 p1 hP;refine⟨fun _=>by omega,(CallsIn.inRound l (hW (aCH _ (mU zs (pre++[x])) _ hN.cnt.nts (by omega)))).mono ?_⟩;rintro e w5 ⟨u,rfl,hR5,hB5⟩;rw[hlen]at hR5;have hR5':fC W5.heap.size w5 u (rnO zs (pre++[x])):=hR5;obtain⟨ua,uc,rfl⟩:=hR5'.shape;have hN5:=aEW hN hB5;have hK5:=hK.trans (nX hB5);have hKP5:=hKP.trans ⟨hB5.mono (by have:=hN.bel.size;omega),hB5.block _ hN.bs.lt,hB5.block _ hN.bt.lt⟩;have hs5:s≤W5.heap.size:=by have:=hN.cbox.lt;omega
  have hrl:=rY zs (pre++[x]);have c1:=hN5.plan.cell;have hmul:IntKind.i64.wrap (20*((pre.length+1:Nat):Int))=((20*(pre.length+1):Nat):Int):=(IntWalk.i64_in _ ⟨by omega,by omega⟩).trans (by omega);clear hR5 hN hK hKP hBN hB5 hlen;by_cases hgd:good zs (pre++[x])=true
  ·have hle:(rnO zs (pre++[x])).length≤20*(pre.length+1):=by simpa [good] using hgd
   have hle':((rnO zs (pre++[x])).length:Int)≤((20*(pre.length+1):Nat):Int):=by omega
   have d0:=hN5.r0.cell;have d1:=hN5.r1.cell;have d2:=hN5.r2.cell;have e0:=hN5.r0.frozen;have e1:=hN5.r1.frozen;have e2:=hN5.r2.frozen;have HEnd:Hid _:=hN5.ends hs3 hR5' hs5;have n1:w.heap.size≠w.heap.size+1:=by omega
   have n2:w.heap.size≠w.heap.size+1+1:=by omega
   have n3:w.heap.size+1≠w.heap.size+1+1:=by omega
   have HG:Hid (good zs (pre++[x])=true):=hgd;have HN:Hid (∀j:Nat,j<pre.length→good zs (pre.take (j+1))=false):=hng;clear hgd hng hle hR5' hN5;gi_wp2;exact⟨((hK5.trans (KeepsOthers.setCell _ _ _)).trans (KeepsOthers.setCell _ _ _)).trans (KeepsOthers.setCell _ _ _),HEnd.out,rfl,pre,x,rfl,HG.out,HN.out⟩
  ·have hgf:good zs (pre++[x])=false:=by simpa using hgd
   have hle:¬(rnO zs (pre++[x])).length≤20*(pre.length+1):=by simpa [good] using hgd
   have hle':¬((rnO zs (pre++[x])).length:Int)≤((20*(pre.length+1):Nat):Int):=by omega
   have HG:Hid _:=aEJ hng hgf;generalize (rnO zs (pre++[x])).length=rl at *;clear hgd hgf hng hle hR5';gi_wp2;exact⟨hK5,hKP5,⟨_,hN5⟩,HG.out⟩
 case done=>
  rintro D xs W hD rfl ⟨⟨v,hP⟩,hng⟩ hK;obtain⟨f1,f2,f3⟩:=xQ hok (rL hng);have d0:=hP.r0.cell;have d1:=hP.r1.cell;have d2:=hP.r2.cell;have e0:=hP.r0.frozen;have e1:=hP.r1.frozen;have e2:=hP.r2.frozen;have n1:w.heap.size≠w.heap.size+1:=by omega
  have n2:w.heap.size≠w.heap.size+1+1:=by omega
  have n3:w.heap.size+1≠w.heap.size+1+1:=by omega
  gi_wp2
  have k1:=(KeepsOthers.setCell W ⟨w.heap.size,0,none⟩ (.slice none 0 0)).same D _ hK rfl;have k2:=(KeepsOthers.setCell (W.setCell ⟨w.heap.size,0,none⟩ (.slice none 0 0)) ⟨w.heap.size+1,0,none⟩ (.slice none 0 0)).same D _ k1 rfl;have k3:=(KeepsOthers.setCell ((W.setCell ⟨w.heap.size,0,none⟩ (.slice none 0 0)).setCell ⟨w.heap.size+1,0,none⟩ (.slice none 0 0)) ⟨w.heap.size+1+1,0,none⟩ (.int .i64 7)).same D _ k2 rfl;refine⟨by simp,.inl ⟨_,_,rfl,run_takeDeferred k3,?_⟩⟩;have hDw:w.heap.size≤D:=by omega
  have x0:Boxed (((W.setCell ⟨w.heap.size,0,none⟩ (.slice none 0 0)).setCell ⟨w.heap.size+1,0,none⟩ (.slice none 0 0)).setCell ⟨w.heap.size+1+1,0,none⟩ (.int .i64 7)) w.heap.size 24 (.slice none 0 0):=((hP.r0.set _).other n1 _).other n2 _;have x1:Boxed (((W.setCell ⟨w.heap.size,0,none⟩ (.slice none 0 0)).setCell ⟨w.heap.size+1,0,none⟩ (.slice none 0 0)).setCell ⟨w.heap.size+1+1,0,none⟩ (.int .i64 7)) (w.heap.size+1) 95 (.slice none 0 0):=((hP.r1.other (Ne.symm n1) _).set _).other n3 _;have x2:Boxed (((W.setCell ⟨w.heap.size,0,none⟩ (.slice none 0 0)).setCell ⟨w.heap.size+1,0,none⟩ (.slice none 0 0)).setCell ⟨w.heap.size+1+1,0,none⟩ (.int .i64 7)) (w.heap.size+1+1) 2 (.int .i64 7):=((hP.r2.other (Ne.symm n2) _).other (Ne.symm n3) _).set _;have y0:=cell_kept x0.cell (grownBy_putObj' _ D (.deferred none)) (fun r e=>by cases e;exact⟨_,k3,rfl⟩);have y1:=cell_kept x1.cell (grownBy_putObj' _ D (.deferred none)) (fun r e=>by cases e;exact⟨_,k3,rfl⟩);have y2:=cell_kept x2.cell (grownBy_putObj' _ D (.deferred none)) (fun r e=>by cases e;exact⟨_,k3,rfl⟩);refine⟨.tuple #[.slice none 0 0,.slice none 0 0,.int .i64 7],?_,.slice none 0 0,.slice none 0 0,by rw[f3],by rw[f1];exact dD.start _ _,by rw[f2];exact fC.start _ _,?_⟩
  ·simp[results,Tryz.f146,go_sem,y0,y1,y2]
  ·exact(((hP.bel.setCell (p:=⟨w.heap.size,0,none⟩) (nR _) _).setCell (p:=⟨w.heap.size+1,0,none⟩) (by show w.heap.size≤w.heap.size+1;omega) _).setCell (p:=⟨w.heap.size+1+1,0,none⟩) (by show w.heap.size≤w.heap.size+1+1;omega) _).trans (belowK_b (w:=w) (nR _) _ D _ _ hDw k3 rfl rfl)
 case stop=>
  rintro D k pre W hD ⟨q,hq,hpre⟩ ⟨⟨p0,q0,h0,h1,h2,h3,h4,h5⟩,rfl,p,x,hpx,hgd,hng⟩ hK;have hpl:pre.length=p.length+1:=by rw[hpx];simp
  have hfx:(frs zs ys zs.length zs.length).take (p.length+1)=pre:=by
   obtain⟨t,ht⟩:=tD zs ys zs.length hq;rw[←ht,←hpre,List.take_append_of_le_length (by omega),List.take_of_length_le (by omega)]
  have hfl:p.length <(frs zs ys zs.length zs.length).length:=by
   have h:=congrArg List.length hfx;rw[List.length_take,hpl]at h;omega
  have hpk:lJ zs ys=some p.length:=rB hfl (by rw[hfx];exact hgd) fun i hi=>by
   have h:(frs zs ys zs.length zs.length).take (i+1)=p.take (i+1):=by
    have h2:=congrArg (List.take (i+1)) hfx;rw[List.take_take,Nat.min_eq_left (by omega)]at h2;rw[h2,hpx,List.take_append_of_le_length (by omega)]
   rw[h];exact hng i hi
  obtain⟨f1,f2,f3⟩:=wJ hok hpk;rw[hfx]at f1 f2;gi_wp2;refine⟨by simp,.inl ⟨_,_,rfl,run_takeDeferred hK,?_⟩⟩;have hDw:w.heap.size≤D:=by omega
  have y0:=cell_kept h0.cell (grownBy_putObj' _ D (.deferred none)) (fun r e=>by cases e;exact⟨_,hK,rfl⟩);have y1:=cell_kept h1.cell (grownBy_putObj' _ D (.deferred none)) (fun r e=>by cases e;exact⟨_,hK,rfl⟩);have y2:=cell_kept h2.cell (grownBy_putObj' _ D (.deferred none)) (fun r e=>by cases e;exact⟨_,hK,rfl⟩);have hsw:w.heap.size≤s:=by omega
  refine⟨.tuple #[p0,q0,.int .i64 0],?_,p0,q0,by rw[f3],?_,?_,?_⟩
  ·simp[results,Tryz.f146,go_sem,y0,y1,y2]
  ·rw[f1]
   unfold dD;have h:=rA (ownsRow_putObj h3 (.deferred none) hK rfl) hsw;rw[List.length_map,List.map_map];exact h
  ·rw[f2]
   exact rA (ownsRow_putObj h4 (.deferred none) hK rfl) hsw
  ·exact h5.trans (belowK_b (w:=w) (nR _) _ D _ _ hDw hK rfl rfl)
theorem wQ(a a':Option Addr)(c c':Nat)(zs ys:List Int)(w:World)(hv:Nts w (.slice a zs.length c) zs)(hv':Nts w (.slice a' ys.length c') ys)(hok:chk [zs,ys]=0):
  Calls Tryz.prog 146 #[.slice a zs.length c,.slice a' ys.length c'] w fun e w'=>∃u v,e=.returned (.tuple #[u,v,.int .i64 (plC zs ys)])∧dD w.heap.size w' u (plP zs ys)∧fC w.heap.size w' v (plR zs ys)∧Bl w w':=
 (callsIn_wide (n:=3)).1 (yV Fence.wide 3 (fun h=>callsIn_wide.2 h) (fun _=>trivial) rfl (nR _) a a' c c' zs ys w hv hv' hok)
