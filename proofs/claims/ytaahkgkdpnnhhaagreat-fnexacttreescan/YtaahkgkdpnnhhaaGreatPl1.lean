import Derived.Lib.SliceRun
import Derived.RangeFuncBox
import Derived.Maps.AppendAt
import Derived.Deep.AppendSrc
import Derived.Deep.RegionHeld3
import Derived.Deep.RegionLaw
import Derived.Deep.Upon
import Derived.Test.YtaahkgkdpnnhhaaGreatInv
import Derived.Test.YtaahkgkdpnnhhaaGreatFo20
set_option maxHeartbeats 9999999
set_option maxRecDepth 99999
set_option linter.all false
namespace Go.Proofs.YtaahkgkdpnnhhaaGreat
open Go.RowKit
variable{ys zs:List Int}{j n:Nat}
def mQ(zs:List Int)(fr:List (Blk n)):List Int:=fr.foldl (fun l x=>l.set x.1 1) zs
theorem vH(zs:List Int)(fr:List (Blk n))(x:Blk n):mQ zs (fr++[x])=(mQ zs fr).set x.1 1:=by simp[mQ]
theorem pO(zs:List Int)(fr:List (Blk n)):(mQ zs fr).length=zs.length:=by
 induction fr generalizing zs with
 | nil=>rfl
 | cons x l ih=>simp only[mQ,List.foldl_cons]at ih ⊢;rw[ih];simp
def rnO(zs:List Int)(fr:List (Blk n)):List (Int×Int×Int):=rns (mQ zs fr) zs.length
def good(zs:List Int)(fr:List (Blk n)):Bool:=decide ((rnO zs fr).length≤20*fr.length)
theorem sX(zs:List Int)(fr:List (Blk n)):(rnO zs fr).length≤zs.length:=sY _ _
def lC(zs ys:List Int):Option Nat:=(List.range (frs zs ys zs.length zs.length).length).find? fun j=>good zs ((frs zs ys zs.length zs.length).take (j+1))
theorem sO(h:∀j,j <(frs zs ys zs.length zs.length).length→good zs ((frs zs ys zs.length zs.length).take (j+1))=false):lC zs ys=none:=
 List.find?_range_eq_none.2 fun i hi=>by rw[h i hi];rfl
theorem sP(hj:j <(frs zs ys zs.length zs.length).length)(hg:good zs ((frs zs ys zs.length zs.length).take (j+1))=true)(h:∀i,i<j→good zs ((frs zs ys zs.length zs.length).take (i+1))=false):lC zs ys=some j:=
 List.find?_range_eq_some.2 ⟨hg,List.mem_range.2 hj,fun i hi=>by rw[h i hi];rfl⟩
def plF(zs ys:List Int):List (Blk zs.length):=if chk [zs,ys]=0 then(match lC zs ys with
 | none=>[]
 | some j=>(frs zs ys zs.length zs.length).take (j+1))else []
def plP(zs ys:List Int):List Int:=(plF zs ys).map fun x=>(x.1:Int)
def plR(zs ys:List Int):List (Int×Int×Int):=if chk [zs,ys]=0 then(match lC zs ys with
 | none=>[]
 | some j=>rnO zs ((frs zs ys zs.length zs.length).take (j+1)))else []
def plC(zs ys:List Int):Int:=if chk [zs,ys]=0 then(match lC zs ys with
 | none=>7
 | some _=>0)else chk [zs,ys]
theorem aMT(h:chk [zs,ys]≠0):plP zs ys=[]∧plR zs ys=[]∧plC zs ys=chk [zs,ys]:=by
 simp[plP,plF,plR,plC,h]
theorem xB(h:chk [zs,ys]=0)(hk:lC zs ys=none):plP zs ys=[]∧plR zs ys=[]∧plC zs ys=7:=by
 simp[plP,plF,plR,plC,h,hk]
theorem xC(h:chk [zs,ys]=0)(hk:lC zs ys=some j):plP zs ys=((frs zs ys zs.length zs.length).take (j+1)).map (fun x=>(x.1:Int))∧plR zs ys=rnO zs ((frs zs ys zs.length zs.length).take (j+1))∧plC zs ys=0:=by
 simp[plP,plF,plR,plC,h,hk]
theorem sN(zs ys:List Int):(plP zs ys).length≤512:=by
 by_cases h:chk [zs,ys]=0
 ·have hl:=(aAP (mF h).2.1).1
  have hf:=jV zs ys zs.length zs.length;cases hk:lC zs ys with
  | none=>rw[(xB h hk).1];simp
  | some j=>rw[(xC h hk).1];simp;omega
 ·rw[(aMT h).1];simp
theorem pF{ops:Array Oper}{rest:List Oper}{o:Oper}{a:Act}{w:World}{Q:Exit→Act→World→Prop}(ik:o.guard=none)(s x:Operand)
  (ho:o.op=.call {callee:=.builtin .append,args:=#[s,x],argTypes:=#[24,24]})
  {base:Nat} {v:Value} {zs ys:List Int} (ap:dE base w v zs) {ad:Addr} {n c:Nat} (hn:ys.length=n) (d8:∀i,i<n→w.cell? (ad.add i)=some (.int .i64 (ys.getD i 0))) (hs:a.eval s=v) (hx:a.eval x=.slice (some ad) n c)
  (ah:zs.length+n<8589934592) (hb:base≤w.heap.size)
  (h:∀v' w',dE base w' v' (zs++ys)→Below base w w'→wpList Tryz.prog ops Q rest (a.put o.dst v') w'):
  wpList Tryz.prog ops Q (o :: rest) a w:=by
 obtain⟨i0,hi,jh,gh,Af⟩:=info_parts rR;refine wpList_append_own _ ik s x 24 ho base 2 i0 (.int .i64 0) 1 8 Tryz.underlying24 hi jh gh Af rfl (by decide) v _ _ hs ap ad n c (ys.map (Value.int .i64)) hx (by simp[hn]) ?_ ?_ ?_ ?_ hb ?_
 ·intro j u hj
  have yg:j<ys.length:=by
   by_cases hh:j<ys.length
   ·exact hh
   ·simp[show ys.length≤j by omega]at hj
  rw[d8 j (by omega)];simp only[List.getElem?_map,gE yg,Option.map_some,sJ]at hj;rw[←hj];simp[yg]
 ·intro u hu
  simp only[List.mem_map]at hu;obtain⟨z,_,rfl⟩:=hu;rfl
 ·unfold maxLen;omega
 ·omega
 ·intro v' w' h1 h2 _
  refine h v' w' ?_ ((bQ base w).grown h2 hb (fun k hk=>(ap.lt k hk).1));unfold dE;simpa [hn] using h1
theorem Addr.add_at(b off i:Nat):(({block:=b,off:=off,spot:=none}:Addr).add i)=⟨b,off+i,none⟩:=by
 unfold Addr.add;by_cases h0:i=0<;>simp[h0]
theorem pI(a:Option Addr)(c:Nat)(zs:List Int)(w:World)(hp:0<zs.length)(hn:zs.length≤1048576)(hv:Nts w (.slice a zs.length c) zs):
  Calls Tryz.prog 148 #[.slice a zs.length c] w fun e w'=>∃u,e=.returned u∧dE w.heap.size w' u zs∧Bl w w':=by
 obtain⟨_,_,he,hs⟩:=hv.shape;simp only[Value.slice.injEq,true_and]at he;obtain⟨rfl,rfl⟩:=he;obtain⟨b,off,rfl,aa⟩:=hs hp;have AV:=fun w=>Lib.run_eql_slice_nil (P:=Tryz.prog) w 24 2 (some ⟨b,off,none⟩) zs.length c 0 0 Tryz.underlying24;have og:=dE.lit w.heap.size w (nR _) w.heap.size rfl;have d8:∀i,i<zs.length→(w.alloc (.cells #[] 2)).cell? ((⟨b,off,none⟩:Addr).add i)=some (.int .i64 (zs.getD i 0)):=fun i hi=>by
  rw[Addr.add_at,World.cell?_alloc_past _ _ _ (World.block_lt_of_cell? _ _ (aa i (by omega)))];exact aa i (by omega)
 have xk:=iG w (.cells #[] 2);have HL:Hid (∀(v':Value) (w':World),dE w.heap.size w' v' ([]++zs)→dE w.heap.size w' v' zs):=fun _ _ h=>h;clear hs aa hv;go_enter Tryz.func148,Tryz.ntmps148;go_wp2_with (at_builtin;refine pF rfl _ _ rfl og rfl d8 rfl rfl (by simp;omega) (by simp) ?_;intro v' w1 eo di);go_ret;exact⟨v',rfl,HL.out _ _ eo,xk.trans di⟩
end Go.Proofs.YtaahkgkdpnnhhaaGreat
namespace Go.Proofs.YtaahkgkdpnnhhaaGreat
open Go.RowKit Go.Shelf
variable{zs:List Int}{xs:List Value}{cap g k s size:Nat}{tmp:Obj}{e:TypeId}{cs ct v v':Value}{W W' w w1:World}
theorem bX{B:Nat}{t:TypeId}(h:Boxed W B t v)(k:Bl W W'):Boxed W' B t v:=(k.block B h.lt).trans h
theorem aEO{β:Type}(lo hi:Nat)(v:Value)(f:β→List Int):Own (fun s W=>cF lo hi W v (f s)):=by
 rintro s X Y row h hg og;obtain⟨a,cap,hv,hc⟩:=h.shape;refine⟨h.small,a,cap,hv,fun hp=>?_⟩;obtain⟨b,off,ha,h1,h2,h3,aa⟩:=hc hp;refine⟨b,off,ha,h1,h2,lL h3 hg.size,fun i hi=>?_⟩;obtain⟨e1,e2⟩:=aa i hi;exact⟨cell_kept e1 hg og,(frozen_kept e1 hg og).trans e2⟩
structure PlS(w:World)(s g cap:Nat)(cs ct:Value)(zs:List Int)(pre:List (Blk zs.length))(v:Value)(W:World):Prop where
 plan:Boxed W (s+1) 24 v
 row:W.ownsRow s 2 1 v pre.length (pre.map fun x=>Value.int .i64 (x.1:Int))
 cbox:Boxed W s 24 (.slice (some ⟨g,0,none⟩) zs.length cap)
 cnt:cF g (g+1) W (.slice (some ⟨g,0,none⟩) zs.length cap) (mQ zs pre)
 r0:Boxed W w.heap.size 24 (.slice none 0 0)
 r1:Boxed W (w.heap.size+1) 95 (.slice none 0 0)
 r2:Boxed W (w.heap.size+1+1) 2 (.int .i64 0)
 bs:Boxed W (s+1+1) 24 cs
 bt:Boxed W (s+1+1+1) 24 ct
 bel:Bl w W
theorem aKH(hs:w.heap.size≤s):OwnFrom s (fun(pre:List (Blk zs.length)) W=>∃v,PlS w s g cap cs ct zs pre v W):=by
 rintro pre X Y row ⟨v,h⟩ hg hr;have jo:∀r,row=some r→∃o:Obj,X.heap[r]?=some o∧o.isCells=false:=fun r e=>(hr r e).2;obtain⟨v',e1,e2,e3⟩:=holdsRow_own (β:=Unit) s (s+1) 24 2 1 (fun _=>pre.length) (fun _=>pre.map fun x=>Value.int .i64 (x.1:Int)) (fun _ u=>u=v) () X Y row ⟨v,h.plan,h.row,rfl⟩ hg jo;subst e3;exact⟨v',e1,e2,boxed_own (β:=Unit) _ _ (fun _=>_) () X Y row h.cbox hg jo,aEO (β:=Unit) _ _ _ (fun _=>mQ zs pre) () X Y row h.cnt hg jo,boxed_own (β:=Unit) _ _ (fun _=>_) () X Y row h.r0 hg jo,boxed_own (β:=Unit) _ _ (fun _=>_) () X Y row h.r1 hg jo,boxed_own (β:=Unit) _ _ (fun _=>_) () X Y row h.r2 hg jo,boxed_own (β:=Unit) _ _ (fun _=>_) () X Y row h.bs hg jo,boxed_own (β:=Unit) _ _ (fun _=>_) () X Y row h.bt hg jo,ownFrom_below (β:=Unit) (nR _) hs () X Y row h.bel hg hr⟩
theorem PlS.appended{pre:List (Blk zs.length)}{x:Blk zs.length}(h:PlS w s g cap cs ct zs pre v W)(hs:w.heap.size+3<s)(hg:g<s)(qp:w.heap.size+3<g)
  (ap:w1.ownsRow s 2 1 v' (pre.length+1) ((pre.map fun x=>Value.int .i64 (x.1:Int))++[.int .i64 (x.1:Int)])) (ko:(W.alloc tmp).grownBy w1 v.ownBlock):
  Boxed w1 (s+1) 24 v∧Boxed (w1.setCell ⟨s+1,0,none⟩ v') (s+1) 24 v'∧(w1.setCell ⟨s+1,0,none⟩ v').ownsRow s 2 1 v' (pre++[x]).length ((pre++[x]).map fun x=>Value.int .i64 (x.1:Int))∧
  Boxed (w1.setCell ⟨s+1,0,none⟩ v') s 24 (.slice (some ⟨g,0,none⟩) zs.length cap)∧cF g (g+1) (w1.setCell ⟨s+1,0,none⟩ v') (.slice (some ⟨g,0,none⟩) zs.length cap) (mQ zs pre)∧
  Boxed (w1.setCell ⟨s+1,0,none⟩ v') w.heap.size 24 (.slice none 0 0)∧Boxed (w1.setCell ⟨s+1,0,none⟩ v') (w.heap.size+1) 95 (.slice none 0 0)∧Boxed (w1.setCell ⟨s+1,0,none⟩ v') (w.heap.size+1+1) 2 (.int .i64 0)∧
  Boxed (w1.setCell ⟨s+1,0,none⟩ v') (s+1+1) 24 cs∧Boxed (w1.setCell ⟨s+1,0,none⟩ v') (s+1+1+1) 24 ct∧Below s W (w1.setCell ⟨s+1,0,none⟩ v')∧KeepsOthers W (w1.setCell ⟨s+1,0,none⟩ v'):=by
 have FG:s≤W.heap.size:=by have:=h.cbox.lt;omega
 obtain⟨e1,e2,e3,e4,e5⟩:=h.plan.appended (by decide) h.row FG (by omega) ap ko;have EU:∀{B:Nat} {u:Value},Boxed W B 24 u→B≠s+1→Boxed (w1.setCell ⟨s+1,0,none⟩ v') B 24 u:=fun hb av=>((hb.alloc tmp).kept ko (hb.not_row (by decide) h.row)).other av _;have AT:∀{B:Nat} {t:TypeId} {u:Value},Boxed W B t u→B<s→Boxed (w1.setCell ⟨s+1,0,none⟩ v') B t u:=fun hb hB=>(e5.block _ hB).trans hb;exact⟨e1,e2,by simpa using e3,EU h.cbox (by omega),h.cnt.kept e5.size fun b h1 h2 _=>e5.block b (by omega),AT h.r0 (by omega),AT h.r1 (by omega),AT h.r2 (by omega),EU h.bs (by omega),EU h.bt (by omega),e5,e4⟩
theorem PlS.mid{pre:List (Blk zs.length)}(x:Blk zs.length)(h:PlS w s g cap cs ct zs pre v W)(hg:g<s)(ko:(W.alloc tmp).grownBy w1 v.ownBlock):
  w1.cell? ⟨s,0,none⟩=some (.slice (some ⟨g,0,none⟩) zs.length cap)∧w1.cell? ⟨g,x.1,none⟩=some (.int .i64 ((mQ zs pre).getD x.1 0))∧w1.frozen? ⟨g,x.1,none⟩=false:=by
 have e1:Boxed w1 s 24 (.slice (some ⟨g,0,none⟩) zs.length cap):=(h.cbox.alloc tmp).kept ko (h.cbox.not_row (by decide) h.row);have OQ:w1.heap[g]?=W.heap[g]?:=by
  have EQ:g<W.heap.size:=by have:=h.cbox.lt;omega
  rw[ko.block g (by simp;omega) (fun e=>?_)]
  ·exact Below.heap_alloc W tmp g EQ
  ·rcases h.row.2 with⟨rfl,_⟩ | ⟨gg,_,_,rfl,hb,_⟩
   ·simp[Value.ownBlock]at e
   ·simp[Value.ownBlock]at e;omega
 have xz:∀b,g≤b→b<g+1→b<W.heap.size→w1.heap[b]?=W.heap[b]?:=fun b h1 h2 _=>by rw[show b=g by omega];exact OQ
 have e2:=h.cnt.kept (w':=w1) (by have:=ko.size;simp at this;omega) xz;obtain⟨_,_,he,hs⟩:=e2.shape;simp only[Value.slice.injEq]at he;obtain⟨rfl,vj,rfl⟩:=he;have hx:=x.2.2;obtain⟨_,_,he,_,_,_,h4⟩:=hs (by omega);simp only[sJ,Addr.mk.injEq,and_true]at he;obtain⟨rfl,rfl⟩:=he;obtain⟨q1,q2⟩:=h4 x.1 (by omega);rw[Nat.zero_add]at q1 q2;exact⟨e1.cell,q1,q2⟩
theorem nN(h:Bl W W'):KeepsOthers W W':=⟨h.size,fun k o hk _=>(h.block k (Array.getElem?_eq_some_iff.1 hk).1).trans hk⟩
theorem aEP{pre:List (Blk zs.length)}(h:PlS w s g cap cs ct zs pre v W)(k:Bl W W'):PlS w s g cap cs ct zs pre v W':=
 ⟨bX h.plan k,by
  rcases h.row.2 with e | ⟨gg,cc,cu,hv,e1,e2,e3⟩
  ·exact⟨h.row.1,.inl e⟩
  ·exact⟨h.row.1,.inr ⟨gg,cc,cu,hv,e1,(k.block gg (Array.getElem?_eq_some_iff.1 e2).1).trans e2,e3⟩⟩,bX h.cbox k,h.cnt.below k,bX h.r0 k,bX h.r1 k,bX h.r2 k,bX h.bs k,bX h.bt k,h.bel.trans (k.mono h.bel.size)⟩
theorem PlS.next{pre:List (Blk zs.length)}{x:Blk zs.length}(h:PlS w s g cap cs ct zs pre v W)(hs:w.heap.size+3<s)(hg:g<s)(qp:w.heap.size+3<g)
  (ap:w1.ownsRow s 2 1 v' (pre.length+1) ((pre.map fun x=>Value.int .i64 (x.1:Int))++[.int .i64 (x.1:Int)])) (ko:(W.alloc tmp).grownBy w1 v.ownBlock):
  PlS w s g cap cs ct zs (pre++[x]) v' ((w1.setCell ⟨s+1,0,none⟩ v').setCell ⟨g,x.1,none⟩ (.int .i64 1))∧KeepsOthers W ((w1.setCell ⟨s+1,0,none⟩ v').setCell ⟨g,x.1,none⟩ (.int .i64 1))∧
   Below w.heap.size W ((w1.setCell ⟨s+1,0,none⟩ v').setCell ⟨g,x.1,none⟩ (.int .i64 1)):=by
 obtain⟨p1,p2,p3,p4,p5,p6,p7,p8,p9,p10,p11,p12⟩:=h.appended hs hg qp ap ko;have hx:=x.2.2;have qh:=p5.stored x.1 hx 1 (by omega);rw[Nat.zero_add,←vH]at qh;have hk:∀{B:Nat} {t:TypeId} {u:Value},Boxed (w1.setCell ⟨s+1,0,none⟩ v') B t u→B≠g→Boxed ((w1.setCell ⟨s+1,0,none⟩ v').setCell ⟨g,x.1,none⟩ (.int .i64 1)) B t u:=fun hb av=>(Below.heap_setCell _ _ _ _ av).trans hb;have hB:Below w.heap.size W ((w1.setCell ⟨s+1,0,none⟩ v').setCell ⟨g,x.1,none⟩ (.int .i64 1)):=(p11.mono (by omega)).setCell (p:=⟨g,x.1,none⟩) (by show w.heap.size≤g;omega) _;refine⟨⟨hk p2 (by omega),?_,hk p4 (by omega),qh.1,hk p6 (by omega),hk p7 (by omega),hk p8 (by omega),hk p9 (by omega),hk p10 (by omega),h.bel.trans hB⟩,p12.trans (KeepsOthers.setCell _ _ _),hB⟩;rcases p3.2 with e | ⟨gg,cc,cu,hv,e1,e2,e3⟩
 ·exact⟨p3.1,.inl e⟩
 ·exact⟨p3.1,.inr ⟨gg,cc,cu,hv,e1,(Below.heap_setCell _ _ _ _ (by show gg≠g;omega)).trans e2,e3⟩⟩
theorem PlS.kp{pre pre':List (Blk zs.length)}(h:PlS w s g cap cs ct zs pre v W)(h':PlS w s g cap cs ct zs pre' v' W')(hb:Below w.heap.size W W'):KpF w.heap.size (s+1+1) (s+1+1+1) W W':=
 ⟨hb,h'.bs.trans h.bs.symm,h'.bt.trans h.bt.symm⟩
def PlE(w:World)(s:Nat)(zs:List Int)(pre:List (Blk zs.length))(W:World):Prop:=
 ∃p q,Boxed W w.heap.size 24 p∧Boxed W (w.heap.size+1) 95 q∧Boxed W (w.heap.size+1+1) 2 (.int .i64 0)∧W.ownsRow s 2 1 p pre.length (pre.map fun x=>Value.int .i64 (x.1:Int))∧W.ownsRow s 165 3 q (rnO zs pre).length (eV (rnO zs pre))∧Bl w W
theorem fA(h:W.ownsRow s e size v k xs){p:Addr}(hp:p.block<s)(u:Value):(W.setCell p u).ownsRow s e size v k xs:=by
 rcases h.2 with e | ⟨gg,cc,cu,hv,e1,e2,e3⟩
 ·exact⟨h.1,.inl e⟩
 ·exact⟨h.1,.inr ⟨gg,cc,cu,hv,e1,(Below.heap_setCell _ _ _ _ (by omega)).trans e2,e3⟩⟩
theorem tB{s':Nat}(h:W.ownsRow s e size v k xs)(hs:s'≤s):W.ownsRow s' e size v k xs:=by
 rcases h.2 with e | ⟨gg,cc,cu,hv,e1,e3⟩
 ·exact⟨h.1,.inl e⟩
 ·exact⟨h.1,.inr ⟨gg,cc,cu,hv,by omega,e3⟩⟩
theorem PlS.ends{base:Nat}{pre:List (Blk zs.length)}{q:Value}(h:PlS w s g cap cs ct zs pre v W)(hs:w.heap.size+3<s)(hq:fD base W q (rnO zs pre))(hb:s≤base):
  PlE w s zs pre (((W.setCell ⟨w.heap.size,0,none⟩ v).setCell ⟨w.heap.size+1,0,none⟩ q).setCell ⟨w.heap.size+1+1,0,none⟩ (.int .i64 0)):=by
 have r1:Boxed (W.setCell ⟨w.heap.size,0,none⟩ v) (w.heap.size+1) 95 (.slice none 0 0):=h.r1.other (by omega) _;have r2:Boxed ((W.setCell ⟨w.heap.size,0,none⟩ v).setCell ⟨w.heap.size+1,0,none⟩ q) (w.heap.size+1+1) 2 (.int .i64 0):=(h.r2.other (by omega) _).other (by omega) _;refine⟨v,q,((h.r0.set v).other (by omega) _).other (by omega) _,(r1.set q).other (by omega) _,r2.set _,?_,?_,?_⟩
 ·exact fA (fA (fA h.row (by show w.heap.size<s;omega) _) (by show w.heap.size+1<s;omega) _) (by show w.heap.size+1+1<s;omega) _
 ·exact fA (fA (fA (tB hq hb) (by show w.heap.size<s;omega) _) (by show w.heap.size+1<s;omega) _) (by show w.heap.size+1+1<s;omega) _
 ·exact((h.bel.setCell (p:=⟨w.heap.size,0,none⟩) (nR _) _).setCell (p:=⟨w.heap.size+1,0,none⟩) (by show w.heap.size≤w.heap.size+1;omega) _).setCell (p:=⟨w.heap.size+1+1,0,none⟩) (by show w.heap.size≤w.heap.size+1+1;omega) _
theorem aKG(hs:w.heap.size≤s):OwnFrom s (fun(pre:List (Blk zs.length)) W=>PlE w s zs pre W):=by
 rintro pre X Y row ⟨p,q,h0,h1,h2,h3,h4,h5⟩ hg hr;have jo:∀r,row=some r→∃o:Obj,X.heap[r]?=some o∧o.isCells=false:=fun r e=>(hr r e).2;obtain⟨v',e1,e2,e3⟩:=holdsRow_own (β:=Unit) s w.heap.size 24 2 1 (fun _=>pre.length) (fun _=>pre.map fun x=>Value.int .i64 (x.1:Int)) (fun _ u=>u=p) () X Y row ⟨p,h0,h3,rfl⟩ hg jo;subst e3;obtain⟨v2,f1,f2,f3⟩:=holdsRow_own (β:=Unit) s (w.heap.size+1) 95 165 3 (fun _=>(rnO zs pre).length) (fun _=>eV (rnO zs pre)) (fun _ u=>u=q) () X Y row ⟨q,h1,h4,rfl⟩ hg jo;subst f3;exact⟨v',v2,e1,f1,boxed_own (β:=Unit) _ _ (fun _=>_) () X Y row h2 hg jo,e2,f2,ownFrom_below (β:=Unit) (nR _) hs () X Y row h5 hg hr⟩
theorem aEC{n:Nat}{pre:List (Blk n)}{x:Blk n}(h:∀j,j<pre.length→good zs (pre.take (j+1))=false)(hx:good zs (pre++[x])=false):∀j,j <(pre++[x]).length→good zs ((pre++[x]).take (j+1))=false:=fun j hj=>by
 by_cases e:j<pre.length
 ·rw[List.take_append_of_le_length (by omega)];exact h j e
 ·rw[List.take_of_length_le (by simp at hj ⊢;omega)];exact hx
attribute [local go_sem] Oper.semAt_some
theorem yU(F:Fence)(n:Nat)(hW:∀{n f args w R},Calls Tryz.prog f args w R→CallsIn F n Tryz.prog f args w R)(pa:∀f,F.fn f)(c9:F.round=none)(hn:3≤n)(a a':Option Addr)(c c':Nat)(zs ys:List Int)(w:World)(hv:Nts w (.slice a zs.length c) zs)(np:Nts w (.slice a' ys.length c') ys)(kf:chk [zs,ys]=0):
  CallsIn F n Tryz.prog 146 #[.slice a zs.length c,.slice a' ys.length c'] w fun e w'=>∃u v,e=.returned (.tuple #[u,v,.int .i64 (plC zs ys)])∧dE w.heap.size w' u (plP zs ys)∧fD w.heap.size w' v (plR zs ys)∧Bl w w':=by
 obtain⟨hl,ed,jg⟩:=mF kf;have hz:=(aAP ed).1;have HL:Hid (ys.length=zs.length):=hl.symm;have nk:1≤n:=by omega
 clear ed jg hl;have g1:=pa 154;have g2:=pa 148;have g3:=pa 131;refine callsIn_of_wp_marks Tryz.func146 rfl (pa _) ?_ c9;simp only[Tryz.ntmps146,List.size_toArray,List.length_cons,List.length_nil,Nat.reduceAdd,Nat.reduceSub,Array.replicate_succ,Array.replicate_zero,List.push_toArray,List.append_toArray,List.nil_append,List.cons_append];gi_wp2_with fail;have b0:=((Boxed.new w 24 (.slice none 0 0)).alloc (.cells #[.slice none 0 0] 95)).alloc (.cells #[.int .i64 0] 2);have b1:=(Boxed.new (w.alloc (.cells #[.slice none 0 0] 24)) 95 (.slice none 0 0)).alloc (.cells #[.int .i64 0] 2);have b2:=Boxed.new ((w.alloc (.cells #[.slice none 0 0] 24)).alloc (.cells #[.slice none 0 0] 95)) 2 (.int .i64 0);simp only[World.size_alloc]at b1 b2;have cw:Bl w (((w.alloc (.cells #[.slice none 0 0] 24)).alloc (.cells #[.slice none 0 0] 95)).alloc (.cells #[.int .i64 0] 2)):=(((bQ _ w).alloc (nR _) _).alloc (by simp) _).alloc (by simp;omega) _;refine(hW (pX _ [zs,ys] _ (LRd.two (hv.below cw) (np.below cw) _ _ (by simp)) (by simp) (by simp) (aFH (by omega) (by rw[HL.out];omega)))).mono ?_;rintro e w1 ⟨rfl,bh⟩;rw[kf];have r0:=(b0.alloc (.cells #[.slice a zs.length c,.slice a' ys.length c'] 24));have r1:=(b1.alloc (.cells #[.slice a zs.length c,.slice a' ys.length c'] 24));have r2:=(b2.alloc (.cells #[.slice a zs.length c,.slice a' ys.length c'] 24));have eX:=cw.trans ((iG _ (.cells #[.slice a zs.length c,.slice a' ys.length c'] 24)).mono cw.size);rw[bh]at r0 r1 r2 eX;have jx:w.heap.size+3<w1.heap.size:=by rw[←bh];simp
 clear bh b0 b1 b2 cw;gi_wp2_with fail;refine(hW (pI _ _ zs _ (by omega) (by omega) (hv.below eX))).mono ?_;rintro e w2 ⟨u,rfl,gi,db⟩;obtain⟨g,cap,rfl⟩:∃g cap,u=.slice (some ⟨g,0,none⟩) zs.length cap:=by
  obtain⟨m,hm⟩:∃m,zs.length=m+1:=⟨zs.length-1,by omega⟩;have qn:=gi;unfold dE at qn;rw[hm]at qn ⊢;exact ownsRow_succ qn
 gi_wp2_with (gi_at_call 131;refine(iZ F (n-1) g3 c9 _ _ _ ⟨_,_,_,rfl⟩ ⟨_,_,_,rfl⟩).mono ?_;rintro e w' ⟨rfl,rfl⟩)
 have CH:=gi.own hv.small;obtain⟨iv,oa⟩:w1.heap.size≤g∧g<w2.heap.size:=by
  have:=World.ownsRow.lt gi g rfl
  exact this
 have vw:cF g (g+1) w2 (.slice (some ⟨g,0,none⟩) zs.length cap) zs:=by
  obtain⟨_,_,he,hs⟩:=CH.shape;refine⟨hv.small,_,_,rfl,fun hp=>?_⟩;simp only[Value.slice.injEq,true_and]at he;obtain⟨rfl,rfl⟩:=he;obtain⟨_,_,he,_,_,h3,h4⟩:=hs hp;simp only[sJ,Addr.mk.injEq,and_true]at he;obtain⟨rfl,rfl⟩:=he;exact⟨g,0,rfl,nR _,Nat.lt_succ_self _,h3,h4⟩
 have bC:=Boxed.new w2 24 (.slice (some ⟨g,0,none⟩) zs.length cap);have bP:=Boxed.new (w2.alloc (.cells #[.slice (some ⟨g,0,none⟩) zs.length cap] 24)) 24 (.slice none 0 0);have bS:=Boxed.new ((w2.alloc (.cells #[.slice (some ⟨g,0,none⟩) zs.length cap] 24)).alloc (.cells #[.slice none 0 0] 24)) 24 (.slice a zs.length c);have bT:=Boxed.new (((w2.alloc (.cells #[.slice (some ⟨g,0,none⟩) zs.length cap] 24)).alloc (.cells #[.slice none 0 0] 24)).alloc (.cells #[.slice a zs.length c] 24)) 24 (.slice a' ys.length c');simp only[World.size_alloc]at bP bS bT;have Ke:Bl w2 ((((w2.alloc (.cells #[.slice (some ⟨g,0,none⟩) zs.length cap] 24)).alloc (.cells #[.slice none 0 0] 24)).alloc (.cells #[.slice a zs.length c] 24)).alloc (.cells #[.slice a' ys.length c'] 24)):=((((bQ _ w2).alloc (nR _) _).alloc (by simp) _).alloc (by simp;omega) _).alloc (by simp;omega) _;have vt:=eX.trans (db.mono eX.size);have kg:PlS w w2.heap.size g cap (.slice a zs.length c) (.slice a' ys.length c') zs [] (.slice none 0 0) ((((w2.alloc (.cells #[.slice (some ⟨g,0,none⟩) zs.length cap] 24)).alloc (.cells #[.slice none 0 0] 24)).alloc (.cells #[.slice a zs.length c] 24)).alloc (.cells #[.slice a' ys.length c'] 24)):=
  ⟨(bP.alloc _).alloc _,World.ownsRow_nil _ _ _ _,((bC.alloc _).alloc _).alloc _,vw.below Ke,bX (bX r0 db) Ke,bX (bX r1 db) Ke,bX (bX r2 db) Ke,bS.alloc _,bT,vt.trans (Ke.mono vt.size)⟩
 have Ls:=kg.bel;have bd:((((w2.alloc (.cells #[.slice (some ⟨g,0,none⟩) zs.length cap] 24)).alloc (.cells #[.slice none 0 0] 24)).alloc (.cells #[.slice a zs.length c] 24)).alloc (.cells #[.slice a' ys.length c'] 24)).heap.size=w2.heap.size+4:=by simp
 obtain⟨W3,Aq⟩:=eZ (((((w2.alloc (.cells #[.slice (some ⟨g,0,none⟩) zs.length cap] 24)).alloc (.cells #[.slice none 0 0] 24)).alloc (.cells #[.slice a zs.length c] 24)).alloc (.cells #[.slice a' ys.length c'] 24)));rw[Aq]at kg Ls bd ⊢;have lh:Hid (W3.heap.size=w2.heap.size+4):=bd;have Xf:=vt.size;generalize hs:w2.heap.size=s at *;have NL:s≤W3.heap.size:=by omega
 have Hf:w.heap.size+3<s:=by omega
 have qp:w.heap.size+3<g:=by omega
 clear Aq bC bP bS bT Ke vt CH vw gi db r0 r1 r2 bd hs eX;refine wpIn_rangeFunc_ownF c9 nk (gf:=150) (lb:=#[.pointer (some ⟨s+1+1,0,none⟩),.pointer (some ⟨s+1+1+1,0,none⟩)]) rfl (pa _) (enters_of Tryz.func150 (by kernel_rfl) rfl)
  (mL F (n-1) (pa _) c9 (by omega) (s+1+1) (s+1+1+1) w.heap.size a a' c c' zs ys HL.out (by omega) (by omega) W3 (by have:=lh.out;omega) (by have:=lh.out;omega) (by omega) kg.bs.cell kg.bt.cell w hv np (by omega) Ls) KpF.trans (KpF.put (by omega) (by have:=lh.out;omega) (by have:=lh.out;omega)) (bQ _ _) (fun _=>rfl)
  (fun pre W=>(∃v,PlS w s g cap (.slice a zs.length c) (.slice a' ys.length c') zs pre v W)∧∀j,j<pre.length→good zs (pre.take (j+1))=false)
  (fun k pre W=>PlE w s zs pre W∧(k=.ret∧∃(p:List (Blk zs.length)) (x:Blk zs.length),pre=p++[x]∧good zs pre=true∧∀j:Nat,j<p.length→good zs (p.take (j+1))=false))
  (fun x X Y row hh hg hr=>⟨aKH (by omega) x X Y row hh.1 hg (fun r e=>⟨lT NL (hr r e).1,(hr r e).2⟩),hh.2⟩)
  (fun k x X Y row hh hg hr=>⟨aKG (by omega) x X Y row hh.1 hg (fun r e=>⟨lT NL (hr r e).1,(hr r e).2⟩),hh.2⟩)
  ⟨⟨_,kg⟩,fun j hj=>by simp at hj⟩
  (fun x=>{tmps:=#[.slice a zs.length c,.slice a' ys.length c',undef,undef,.pointer (some ⟨w.heap.size,0,none⟩),.pointer (some ⟨w.heap.size+1,0,none⟩),.pointer (some ⟨w.heap.size+1+1,0,none⟩),.int .i64 0,.pointer (some ⟨s,0,none⟩),.pointer (some ⟨s+1,0,none⟩),.int .i64 (x.1:Int),undef,.slice a zs.length c,.slice a' ys.length c',.slice (some ⟨w.heap.size+1+1+1,0,none⟩) 2 2,.int .i64 0,.int .i64 0,.bool false,undef,.slice a zs.length c,.slice (some ⟨g,0,none⟩) zs.length cap,.slice a zs.length c,.slice a' ys.length c',.func (.func 150) #[] #[.pointer (some ⟨s+1+1,0,none⟩),.pointer (some ⟨s+1+1+1,0,none⟩)],.int .i64 (x.1:Int),undef,undef,undef,undef,undef,undef,undef,undef,undef,undef,undef,undef,undef,undef,undef,undef,undef],defers:=[]}) ?assign ?body ?done ?stop
 case assign=>
  intro l x W K hK;gi_wp2;exact hK
 case body=>
  rintro l pre x W ⟨⟨v,hP⟩,Bk⟩ T2;obtain⟨i0,hi,jh,gh,Af⟩:=info_parts rR;have FG:s≤W.heap.size:=by have:=hP.cbox.lt;omega
  have yt:=x.2.1;have pt:=x.2.2;have Ob:(x.1:Int) <(zs.length:Int):=by omega
  have lw:s≠s+1:=by omega
  have M5:g≠s+1:=by omega
  have Wq:g≠s:=by omega
  have zc:=hP.plan.cell;obtain⟨va,vc,rfl⟩:∃va vc,v=.slice va pre.length vc:=by
   rcases hP.row.2 with⟨e,e2⟩ | ⟨gg,cc,cu,e,_⟩
   ·exact⟨none,0,by rw[e,e2]⟩
   ·exact⟨_,_,e⟩
  gi_wp2_with (gi_at_builtin;refine wpListIn_append_own _ rfl _ _ 24 rfl s 2 i0 (.int .i64 0) 1 8 Tryz.underlying24 hi jh gh Af rfl (by decide) _ _ _ rfl (World.ownsRow.alloc hP.row _) ⟨W.heap.size,0,none⟩ 1 1 [.int .i64 (x.1:Int)] rfl rfl (cell_one_new _ _ _) (by simp[Value.oneCell']) (by unfold maxLen;omega) (by omega) (by simp;omega) ?_;intro v' w4 sd ko _;obtain⟨g',cap',rfl⟩:=ownsRow_succ sd;obtain⟨p1,-⟩:=hP.appended Hf oa qp sd ko;have ed:=p1.cell;have Kr:=p1.frozen;obtain⟨m1,m2,m3⟩:=hP.mid x oa ko)
  obtain⟨hN,hK,PW⟩:=hP.next Hf oa qp sd ko;obtain⟨W5,Ar⟩:=eZ (((w4.setCell ⟨s+1,0,none⟩ (.slice (some ⟨g',0,none⟩) (pre.length+1) cap')).setCell ⟨g,x.1,none⟩ (.int .i64 1)));rw[Ar]at hN hK PW ⊢;have ah:=pO zs (pre++[x]);have S7:=hP.kp hN PW;clear Ar sd ko zc ed Kr m1 m2 m3 p1 hP;refine⟨fun _=>by omega,(CallsIn.inRound l (hW (aBN _ (mQ zs (pre++[x])) _ hN.cnt.nts (by omega)))).mono ?_⟩;rintro e w5 ⟨u,rfl,CJ,qx⟩;rw[ah]at CJ;have Fl:fD W5.heap.size w5 u (rnO zs (pre++[x])):=CJ;obtain⟨ua,uc,rfl⟩:=Fl.shape;have ix:=aEP hN qx;have CF:=hK.trans (nN qx);have Pn:=S7.trans ⟨qx.mono (by have:=hN.bel.size;omega),qx.block _ hN.bs.lt,qx.block _ hN.bt.lt⟩;have LI:s≤W5.heap.size:=by have:=hN.cbox.lt;omega
  have qu:=sX zs (pre++[x]);have c1:=ix.plan.cell;have Wp:IntKind.i64.wrap (20*((pre.length+1:Nat):Int))=((20*(pre.length+1):Nat):Int):=(IntWalk.i64_in _ ⟨by omega,by omega⟩).trans (by omega);clear CJ hN hK S7 PW qx ah;by_cases ik:good zs (pre++[x])=true
  ·have pr:(rnO zs (pre++[x])).length≤20*(pre.length+1):=by simpa [good] using ik
   have RH:((rnO zs (pre++[x])).length:Int)≤((20*(pre.length+1):Nat):Int):=by omega
   have d0:=ix.r0.cell;have d1:=ix.r1.cell;have d2:=ix.r2.cell;have e0:=ix.r0.frozen;have e1:=ix.r1.frozen;have e2:=ix.r2.frozen;have Om:Hid _:=ix.ends Hf Fl LI;have n1:w.heap.size≠w.heap.size+1:=by omega
   have n2:w.heap.size≠w.heap.size+1+1:=by omega
   have n3:w.heap.size+1≠w.heap.size+1+1:=by omega
   have HG:Hid (good zs (pre++[x])=true):=ik;have HN:Hid (∀j:Nat,j<pre.length→good zs (pre.take (j+1))=false):=Bk;clear ik Bk pr Fl ix;gi_wp2;exact⟨((CF.trans (KeepsOthers.setCell _ _ _)).trans (KeepsOthers.setCell _ _ _)).trans (KeepsOthers.setCell _ _ _),Om.out,rfl,pre,x,rfl,HG.out,HN.out⟩
  ·have At:good zs (pre++[x])=false:=by simpa using ik
   have pr:¬(rnO zs (pre++[x])).length≤20*(pre.length+1):=by simpa [good] using ik
   have RH:¬((rnO zs (pre++[x])).length:Int)≤((20*(pre.length+1):Nat):Int):=by omega
   have HG:Hid _:=aEC Bk At;generalize (rnO zs (pre++[x])).length=rl at *;clear ik At Bk pr Fl;gi_wp2;exact⟨CF,Pn,⟨_,ix⟩,HG.out⟩
 case done=>
  rintro D xs W hD rfl ⟨⟨v,hP⟩,Bk⟩ hK;obtain⟨f1,f2,f3⟩:=xB kf (sO Bk);have d0:=hP.r0.cell;have d1:=hP.r1.cell;have d2:=hP.r2.cell;have e0:=hP.r0.frozen;have e1:=hP.r1.frozen;have e2:=hP.r2.frozen;have n1:w.heap.size≠w.heap.size+1:=by omega
  have n2:w.heap.size≠w.heap.size+1+1:=by omega
  have n3:w.heap.size+1≠w.heap.size+1+1:=by omega
  gi_wp2
  have k1:=(KeepsOthers.setCell W ⟨w.heap.size,0,none⟩ (.slice none 0 0)).same D _ hK rfl;have k2:=(KeepsOthers.setCell (W.setCell ⟨w.heap.size,0,none⟩ (.slice none 0 0)) ⟨w.heap.size+1,0,none⟩ (.slice none 0 0)).same D _ k1 rfl;have k3:=(KeepsOthers.setCell ((W.setCell ⟨w.heap.size,0,none⟩ (.slice none 0 0)).setCell ⟨w.heap.size+1,0,none⟩ (.slice none 0 0)) ⟨w.heap.size+1+1,0,none⟩ (.int .i64 7)).same D _ k2 rfl;refine⟨by simp,.inl ⟨_,_,rfl,run_takeDeferred k3,?_⟩⟩;have Pb:w.heap.size≤D:=by omega
  have x0:Boxed (((W.setCell ⟨w.heap.size,0,none⟩ (.slice none 0 0)).setCell ⟨w.heap.size+1,0,none⟩ (.slice none 0 0)).setCell ⟨w.heap.size+1+1,0,none⟩ (.int .i64 7)) w.heap.size 24 (.slice none 0 0):=((hP.r0.set _).other n1 _).other n2 _;have x1:Boxed (((W.setCell ⟨w.heap.size,0,none⟩ (.slice none 0 0)).setCell ⟨w.heap.size+1,0,none⟩ (.slice none 0 0)).setCell ⟨w.heap.size+1+1,0,none⟩ (.int .i64 7)) (w.heap.size+1) 95 (.slice none 0 0):=((hP.r1.other (Ne.symm n1) _).set _).other n3 _;have x2:Boxed (((W.setCell ⟨w.heap.size,0,none⟩ (.slice none 0 0)).setCell ⟨w.heap.size+1,0,none⟩ (.slice none 0 0)).setCell ⟨w.heap.size+1+1,0,none⟩ (.int .i64 7)) (w.heap.size+1+1) 2 (.int .i64 7):=((hP.r2.other (Ne.symm n2) _).other (Ne.symm n3) _).set _;have y0:=cell_kept x0.cell (grownBy_putObj' _ D (.deferred none)) (fun r e=>by cases e;exact⟨_,k3,rfl⟩);have y1:=cell_kept x1.cell (grownBy_putObj' _ D (.deferred none)) (fun r e=>by cases e;exact⟨_,k3,rfl⟩);have y2:=cell_kept x2.cell (grownBy_putObj' _ D (.deferred none)) (fun r e=>by cases e;exact⟨_,k3,rfl⟩);refine⟨.tuple #[.slice none 0 0,.slice none 0 0,.int .i64 7],?_,.slice none 0 0,.slice none 0 0,by rw[f3],by rw[f1];exact dE.start _ _,by rw[f2];exact fD.start _ _,?_⟩
  ·simp[results,Tryz.f146,go_sem,y0,y1,y2]
  ·exact(((hP.bel.setCell (p:=⟨w.heap.size,0,none⟩) (nR _) _).setCell (p:=⟨w.heap.size+1,0,none⟩) (by show w.heap.size≤w.heap.size+1;omega) _).setCell (p:=⟨w.heap.size+1+1,0,none⟩) (by show w.heap.size≤w.heap.size+1+1;omega) _).trans (belowK_b (w:=w) (nR _) _ D _ _ Pb k3 rfl rfl)
 case stop=>
  rintro D k pre W hD ⟨q,hq,lg⟩ ⟨⟨p0,q0,h0,h1,h2,h3,h4,h5⟩,rfl,p,x,T4,ik,Bk⟩ hK;have qf:pre.length=p.length+1:=by rw[T4];simp
  have OP:(frs zs ys zs.length zs.length).take (p.length+1)=pre:=by
   obtain⟨t,ht⟩:=rN zs ys zs.length hq;rw[←ht,←lg,List.take_append_of_le_length (by omega),List.take_of_length_le (by omega)]
  have te:p.length <(frs zs ys zs.length zs.length).length:=by
   have h:=congrArg List.length OP;rw[List.length_take,qf]at h;omega
  have LB:lC zs ys=some p.length:=sP te (by rw[OP];exact ik) fun i hi=>by
   have h:(frs zs ys zs.length zs.length).take (i+1)=p.take (i+1):=by
    have h2:=congrArg (List.take (i+1)) OP;rw[List.take_take,Nat.min_eq_left (by omega)]at h2;rw[h2,T4,List.take_append_of_le_length (by omega)]
   rw[h];exact Bk i hi
  obtain⟨f1,f2,f3⟩:=xC kf LB;rw[OP]at f1 f2;gi_wp2;refine⟨by simp,.inl ⟨_,_,rfl,run_takeDeferred hK,?_⟩⟩;have Pb:w.heap.size≤D:=by omega
  have y0:=cell_kept h0.cell (grownBy_putObj' _ D (.deferred none)) (fun r e=>by cases e;exact⟨_,hK,rfl⟩);have y1:=cell_kept h1.cell (grownBy_putObj' _ D (.deferred none)) (fun r e=>by cases e;exact⟨_,hK,rfl⟩);have y2:=cell_kept h2.cell (grownBy_putObj' _ D (.deferred none)) (fun r e=>by cases e;exact⟨_,hK,rfl⟩);have NR:w.heap.size≤s:=by omega
  refine⟨.tuple #[p0,q0,.int .i64 0],?_,p0,q0,by rw[f3],?_,?_,?_⟩
  ·simp[results,Tryz.f146,go_sem,y0,y1,y2]
  ·rw[f1]
   unfold dE;have h:=tB (ownsRow_putObj h3 (.deferred none) hK rfl) NR;rw[List.length_map,List.map_map];exact h
  ·rw[f2]
   exact tB (ownsRow_putObj h4 (.deferred none) hK rfl) NR
  ·exact h5.trans (belowK_b (w:=w) (nR _) _ D _ _ Pb hK rfl rfl)
theorem wL(a a':Option Addr)(c c':Nat)(zs ys:List Int)(w:World)(hv:Nts w (.slice a zs.length c) zs)(np:Nts w (.slice a' ys.length c') ys)(kf:chk [zs,ys]=0):
  Calls Tryz.prog 146 #[.slice a zs.length c,.slice a' ys.length c'] w fun e w'=>∃u v,e=.returned (.tuple #[u,v,.int .i64 (plC zs ys)])∧dE w.heap.size w' u (plP zs ys)∧fD w.heap.size w' v (plR zs ys)∧Bl w w':=
 (callsIn_wide (n:=3)).1 (yU Fence.wide 3 (fun h=>callsIn_wide.2 h) (fun _=>trivial) rfl (nR _) a a' c c' zs ys w hv np kf)
end Go.Proofs.YtaahkgkdpnnhhaaGreat
namespace Go.Proofs.YtaahkgkdpnnhhaaGreat
open Go.RowKit
theorem aIK(zs:List Int)(k:Nat)(h:k<zs.length):zs.take (k+1)=zs.take k++[zs.getD k 0]:=by
 rw[List.take_succ_eq_append_getElem h];simp[h]
theorem tG{zs:List Int}(h:∀i,-9223372036854775808≤zs.getD i 0∧zs.getD i 0≤9223372036854775807)(k i:Nat):-9223372036854775808≤(zs.take k).getD i 0∧(zs.take k).getD i 0≤9223372036854775807:=by
 have:=h i
 simp only[gD,List.getElem?_take]at this ⊢;by_cases hi:i<k
 ·rw[if_pos hi];exact this
 ·rw[if_neg hi];simp
theorem cF.take{lo hi:Nat}{w:World}{a:Option Addr}{n cap:Nat}{zs:List Int}(h:cF lo hi w (.slice a n cap) zs)(k:Nat)(hk:k≤n):cF lo hi w (.slice a k cap) (zs.take k):=by
 obtain⟨_,_,he,hs⟩:=h.shape;simp only[Value.slice.injEq]at he;obtain⟨rfl,rfl,rfl⟩:=he;have hl:(zs.take k).length=k:=by simp;omega
 refine⟨tG h.small k,a,cap,by rw[hl],fun hp=>?_⟩;rw[hl]at hp;obtain⟨b,off,ha,h1,h2,h3,hc⟩:=hs (by omega);refine⟨b,off,ha,h1,h2,h3,fun i hi=>?_⟩;rw[hl]at hi;obtain⟨c1,c2⟩:=hc i (by omega);refine⟨?_,c2⟩;rw[c1];simp only[gD,List.getElem?_take,if_pos hi]
theorem aJR(zs ys:List Int)(i:Nat)(h:i <(frs zs ys zs.length zs.length).length):(frI zs ys zs.length zs.length).getD i 0=(((frs zs ys zs.length zs.length)[i]'(h)).1:Int):=by
 simp[frI,h]
theorem aGS(zs ys:List Int)(i:Nat)(h:i <(frs zs ys zs.length zs.length).length):(frs zs ys zs.length zs.length).take (i+1)=(frs zs ys zs.length zs.length).take i++[(frs zs ys zs.length zs.length)[i]'(h)]:=List.take_succ_eq_append_getElem h
theorem aCP(zs ys:List Int):(frI zs ys zs.length zs.length).length=(frs zs ys zs.length zs.length).length:=by simp[frI]
theorem cF.stored2{lo hi:Nat}{w:World}{a:Option Addr}{n cap:Nat}{zs:List Int}(h:cF lo hi w (.slice a n cap) zs)(j:Nat)(hj:j<n)(x:Int)(hx:-9223372036854775808≤x∧x≤9223372036854775807):
  ∃b off,a=some ⟨b,off,none⟩∧lo≤b∧b<hi∧w.cell? ⟨b,off+j,none⟩=some (.int .i64 (zs.getD j 0))∧w.frozen? ⟨b,off+j,none⟩=false∧
   cF lo hi (w.setCell ⟨b,off+j,none⟩ (.int .i64 x)) (.slice a n cap) (zs.set j x)∧Upd lo hi w (w.setCell ⟨b,off+j,none⟩ (.int .i64 x)):=by
 have h':=h;obtain⟨_,_,he,hs⟩:=h'.shape;simp only[Value.slice.injEq]at he;obtain⟨rfl,rfl,rfl⟩:=he;obtain⟨b,off,rfl,h1,h2,h3,hc⟩:=hs (by omega);obtain⟨c1,c2⟩:=hc j hj;obtain⟨s1,s2⟩:=h.stored j hj x hx;exact⟨b,off,rfl,h1,h2,c1,c2,s1,s2⟩
theorem aBC(a a':Option Addr)(c c':Nat)(zs ys:List Int)(w:World)(hv:Nts w (.slice a zs.length c) zs)(np:Nts w (.slice a' ys.length c') ys)(kf:chk [zs,ys]=0):
  Calls Tryz.prog 63 #[.slice a zs.length c,.slice a' ys.length c'] w fun e w'=>∃a0 c0 a1 c1 l0 h0 l1 h1,e=.returned (.tuple #[.slice a0 (plP zs ys).length c0,.slice a1 (plR zs ys).length c1,.int .i64 (plC zs ys)])∧w.heap.size≤l0∧h0≤w'.heap.size∧w.heap.size≤l1∧h1≤w'.heap.size∧(h0≤l1∨h1≤l0)∧cF l0 h0 w' (.slice a0 (plP zs ys).length c0) (plP zs ys)∧aFQ l1 h1 w' (.slice a1 (plR zs ys).length c1) (plR zs ys)∧Bl w w':=by
 obtain⟨hl,ed,jg⟩:=mF kf;have hz:=(aAP ed).1;have HL:Hid (ys.length=zs.length):=hl.symm;obtain⟨_,_,he,hs⟩:=hv.shape;simp only[Value.slice.injEq,true_and]at he;obtain⟨rfl,rfl⟩:=he;obtain⟨b,off,rfl,aa⟩:=hs (by omega);have lm:b<w.heap.size:=World.block_lt_of_cell? _ _ (aa 0 (by omega));have lv:=hv.small;clear ed jg hl hs;go_enter Tryz.func63,Tryz.ntmps63;go_wp2_with fail;refine(rY _ _ _ _ zs ys _ hv np HL.out (by omega) (by omega)).mono ?_;rintro e w1 ⟨u,rfl,iq,ao⟩;obtain⟨fa,fc,rfl⟩:=iq.shape;have DK:=iq.own (fun i=>aEA zs ys _ _ i (by omega));have jx:=ao.size;have MX:(frI zs ys zs.length zs.length).length≤fc:=by
  rcases iq.2 with⟨e,e2⟩ | ⟨gg,cc,cu,e,_,_,h3,_⟩
  ·simp only[Value.slice.injEq]at e;omega
  ·simp only[Value.slice.injEq]at e;omega
 have te:=rL zs ys zs.length zs.length;have Jd:=aCP zs ys;rw[Jd]at te MX;rw[Jd]at DK;rw[Jd];clear iq hv np;obtain⟨m,HM⟩:∃m,Hid ((frs zs ys zs.length zs.length).length=m):=⟨_,rfl⟩;rw[HM.out]at te DK Jd MX;rw[HM.out];go_wp2;go_loopw [8] (fun i wr=>∃k:Nat,1≤k∧k≤m+1∧i=.int .i64 k∧cF w.heap.size w1.heap.size wr (.slice fa m fc) (frI zs ys zs.length zs.length)∧Bl w wr∧w1.heap.size≤wr.heap.size∧∀j,j+1<k→good zs ((frs zs ys zs.length zs.length).take (j+1))=false) (fun i _=>m+1 -(intOf i).toNat)
 case atStart=>exact⟨1,nR _,by omega,rfl,DK,ao,nR _,fun j hj=>by omega⟩
 case round=>
  obtain⟨k,fw,hk,rfl,hO,hb,NR,Bk⟩:=hrel;obtain⟨wo,rfl⟩:∃wo,wo=wr:=⟨wr,rfl⟩;clear DK ao;by_cases ai:k≤m
  ·have Bi:(k:Int)≤(m:Int):=by omega
   have bd:=hb.size;go_wp2;go_loopw [9,10] (fun u i w2=>∃j:Nat,j≤zs.length∧i=.int .i64 j∧dE wo.heap.size w2 u (zs.take j)∧Bl wo w2) (fun _ i _=>zs.length -(intOf i).toNat)
   case atStart=>exact⟨0,Nat.zero_le _,rfl,dE.lit _ _ (nR _) _ rfl,iG _ _⟩
   case round=>
    obtain⟨j,hj,rfl,ap,ba⟩:=hrel;obtain⟨w2,rfl⟩:∃w2,w2=wr:=⟨wr,rfl⟩;obtain⟨ua,uc,Ek⟩:=ap.shape;have fy:(zs.take j).length=j:=by simp;omega
    rw[fy]at Ek;subst Ek;have ep:=ba.size;by_cases FB:j<zs.length
    ·have g1:w2.cell? ⟨b,off+j,none⟩=some (.int .i64 (zs.getD j 0)):=(ba.cell (p:=⟨b,off+j,none⟩) (by show b<wo.heap.size;omega)).trans ((hb.cell (p:=⟨b,off+j,none⟩) lm).trans (aa j FB))
     have hi:(j:Int) <(zs.length:Int):=by omega
     have HT:Hid (zs.take (j+1)=zs.take j++[zs.getD j 0]):=aIK zs j FB;have Qf:(zs.take j).length<8589934592:=by omega
     generalize zs.getD j 0=z at *;clear fy;go_wp2_with (first | (at_builtin;refine kK rfl _ _ rfl _ ap rfl rfl Qf ep ?_;intro v' w3 eo di AZ Qs) | go_in);rw[←HT.out]at eo;go_roundw
     case rel=>exact⟨j+1,by omega,by go_num,eo,ba.trans di⟩
     case measure=>simp[intOf];omega
    ·have Jn:j=zs.length:=by omega
     have CH:cF wo.heap.size w2.heap.size w2 (.slice ua zs.length uc) zs:=by
      have h:=ap.own (tG lv j);rw[Jn,List.take_length]at h;exact h
     rw[Jn];clear ap fy FB hj Jn;go_wp2;go_loopw [11] (fun i w3=>∃q:Nat,q≤k∧i=.int .i64 q∧cF wo.heap.size w2.heap.size w3 (.slice ua zs.length uc) (mQ zs ((frs zs ys zs.length zs.length).take q))∧Upd wo.heap.size w2.heap.size w2 w3) (fun i _=>k -(intOf i).toNat)
     case atStart=>exact⟨0,Nat.zero_le _,rfl,CH,Upd.refl _ _ _⟩
     case round=>
      obtain⟨q,hq,rfl,vw,LM⟩:=hrel;obtain⟨w3,rfl⟩:∃w3,w3=wr:=⟨wr,rfl⟩;have Hf:=LM.size;by_cases hlq:q<k
      ·have LD:q <(frs zs ys zs.length zs.length).length:=by rw[HM.out];omega
       have W0:q<m:=by omega
       obtain⟨x,HX⟩:∃x,Hid ((frs zs ys zs.length zs.length)[q]'(LD)=x):=⟨_,rfl⟩;have yt:=x.2.1;have pt:=x.2.2;have bu:cF w.heap.size w1.heap.size w3 (.slice fa m fc) (frI zs ys zs.length zs.length):=(hO.below ba).upd LM (.inl NR);obtain⟨_,_,he,hs⟩:=bu.shape;simp only[Value.slice.injEq]at he;obtain⟨rfl,QE,rfl⟩:=he;obtain⟨fb,fo,rfl,Kr,xx,YD,sn⟩:=hs (by omega);have g1:=(sn q (by omega)).1;rw[aJR zs ys q LD,HX.out]at g1;have qh:=vw.stored2 x.1 pt 1 (by omega);obtain⟨lb,lo',rfl,ee,Cz,c1,c2,NO,NP⟩:=qh;have HT:Hid (mQ zs ((frs zs ys zs.length zs.length).take (q+1))=(mQ zs ((frs zs ys zs.length zs.length).take q)).set x.1 1):=by
        rw[aGS zs ys q LD,vH,HX.out];rfl
       have ox:Hid _:=NO;have pw:Hid _:=NP;have jd:(q:Int) <(m:Int):=by omega
       have AM:(x.1:Int) <(zs.length:Int):=by omega
       have Kv:(q:Int) <(k:Int):=by omega
       generalize (mQ zs ((frs zs ys zs.length zs.length).take q)).getD x.1 0=cv at *;generalize x.1=xv at *;clear QE hs sn bu NO NP vw CH HX LD;go_wp2;go_roundw
       case rel=>exact⟨q+1,by omega,by go_num,by rw[HT.out];exact ox.out,LM.trans pw.out⟩
       case measure=>simp[intOf];omega
      ·have NA:q=k:=by omega
       subst NA;have ah:=pO zs ((frs zs ys zs.length zs.length).take q);have fy:((frs zs ys zs.length zs.length).take q).length=q:=by rw[List.length_take,HM.out];omega
       have bu:cF w.heap.size w1.heap.size w3 (.slice fa m fc) (frI zs ys zs.length zs.length):=(hO.below ba).upd LM (.inl NR);have bx:Bl w w3:=(hb.trans (ba.mono hb.size)).trans (LM.below hb.size (by omega));have Vu:=ba.size;clear hO CH hlq hq;go_wp2_with fail;refine(aBD _ _ _ vw.nts (by omega)).mono ?_;rintro e w4 ⟨u,rfl,lj,kw⟩;rw[ah]at lj;have Fk:fD w3.heap.size w4 u (rnO zs ((frs zs ys zs.length zs.length).take q)):=lj;obtain⟨ra,rc,rfl⟩:=Fk.shape;have jl:=bu.below kw;have MR:=bx.trans (kw.mono bx.size);have yn:=kw.size;have qu:=sX zs ((frs zs ys zs.length zs.length).take q);have SX:Hid (good zs ((frs zs ys zs.length zs.length).take q)=decide ((rnO zs ((frs zs ys zs.length zs.length).take q)).length≤20*q)):=by unfold good;rw[fy];rfl
       clear lj bu vw ah bx kw ba LM;by_cases ik:(rnO zs ((frs zs ys zs.length zs.length).take q)).length≤20*q
       ·have qr:lC zs ys=some (q-1):=sP (by rw[HM.out];omega) (by rw[show q-1+1=q by omega,SX.out];exact decide_eq_true ik) (fun i hi=>Bk i (by omega))
        obtain⟨f1,f2,f3⟩:=xC kf qr;rw[show q-1+1=q by omega]at f1 f2;have er:=jl.take q (by omega);have RZ:(frI zs ys zs.length zs.length).take q=plP zs ys:=by rw[f1,frI,List.map_take]
        rw[RZ]at er;have qf:(plP zs ys).length=q:=by rw[←RZ,List.length_take,aCP,HM.out];omega
        have Fg:=Fk.own;have Qo:((rnO zs ((frs zs ys zs.length zs.length).take q)).length:Int)≤20*(q:Int):=by omega
        rw[←f2]at Fg;have sg:Hid (plR zs ys=rnO zs ((frs zs ys zs.length zs.length).take q)):=f2;have Oo:Hid (plC zs ys=0):=f3;have Es:Hid ((plP zs ys).length=q):=qf;have YS:q≤fc:=by omega
        have Wz:(q:Int)≤(fc:Int):=by omega
        clear ik qr f1 f2 f3 RZ qf jl Fk Bk fy;go_wp2;refine bodyPost_ret (v:=.tuple #[.slice fa q fc,.slice ra (rnO zs ((frs zs ys zs.length zs.length).take q)).length rc,.int .i64 0]) (by simp[results,Tryz.results63,go_sem]) rfl ⟨fa,fc,ra,rc,w.heap.size,w1.heap.size,w3.heap.size,w4.heap.size,by rw[Oo.out,sg.out,Es.out],nR _,by omega,by omega,nR _,.inl (by omega),by rw[Es.out];exact er,by rw[sg.out]at Fg ⊢;exact Fg,MR⟩
       ·have At:good zs ((frs zs ys zs.length zs.length).take q)=false:=by rw[SX.out];exact decide_eq_false ik
        have Qo:¬((rnO zs ((frs zs ys zs.length zs.length).take q)).length:Int)≤20*(q:Int):=by omega
        have Um:Hid (∀j,j+1<q+1→good zs ((frs zs ys zs.length zs.length).take (j+1))=false):=fun j hj=>by
         by_cases e:j+1<q
         ·exact Bk j e
         ·rw[show j+1=q by omega];exact At
        clear ik At Fk Bk fy;go_wp2;go_roundw
        case rel=>exact⟨q+1,by omega,by omega,by go_num,jl,MR,by omega,Um.out⟩
        case measure=>simp[intOf];omega
  ·have EV:k=m+1:=by omega
   have G9:lC zs ys=none:=sO fun j hj=>Bk j (by rw[HM.out]at hj;omega);obtain⟨f1,f2,f3⟩:=xB kf G9;have HF:Hid (plP zs ys=[]∧plR zs ys=[]∧plC zs ys=7):=⟨f1,f2,f3⟩;have ll:=hb.size;clear Bk G9 f1 f2 f3 hO;go_wp2;refine bodyPost_ret (v:=.tuple #[.slice none 0 0,.slice none 0 0,.int .i64 7]) (by simp[results,Tryz.results63,go_sem]) rfl ?_;rw[HF.out.1,HF.out.2.1,HF.out.2.2];exact⟨none,0,none,0,w.heap.size,w.heap.size,w.heap.size,w.heap.size,rfl,nR _,ll,nR _,ll,.inl (nR _),cF.empty _ _ _ _ _,aFQ.empty _ _ _ _ _,hb⟩
section
variable {P : Program} {ops : Array Oper} {Q : Exit → Act → World → Prop} {md : Region.Mode} {S : World → Prop} {L : Nat}
def fI(P:Program)(md:Region.Mode)(ops:Array Oper)(Q:Exit→Act→World→Prop)(S:World→Prop)(L:Nat):Nat→Array Bool→Act→World→Prop
 | 0,listed,a,w=>Region.ready md ops listed=[]∧Q .normal a w
 | fuel+1,listed,a,w=>
  (Region.ready md ops listed=[]→Q .normal a w)∧
  ∀i∈Region.ready md ops listed,wpOp P ops Q i (fun a' w'=>(i<L→S w')∧fI P md ops Q S L fuel (listed.setIfInBounds i true) a' w') a w
theorem tQ:∀(fuel:Nat) (listed:Array Bool) (a:Act) (w:World),fI P md ops Q S L fuel listed a w→wpAny P md ops Q fuel listed a w
 | 0,_,_,_,h=>h
 | fuel+1,_,_,_,h=>⟨h.1,fun i hi=>wpOp_mono (fun a' w' h'=>tQ fuel _ a' w' h'.2) (h.2 i hi)⟩
theorem iO{i:Nat}{oi:Oper}{fuel:Nat}{listed:Array Bool}{a:Act}{w:World}(hr:Region.ready md ops listed=[i])(hi:ops[i]?=some oi)(hg:oi.guard=none)
  (h:∀K':Act→World→Prop,(∀a' w',(i<L→S w')→fI P md ops Q S L fuel (listed.setIfInBounds i true) a' w'→K' a' w')→oi.wp P a w K' Q):fI P md ops Q S L (fuel+1) listed a w:=by
 refine⟨fun h0=>by simp[hr]at h0,fun j hj=>?_⟩;rw[hr]at hj;simp only[List.mem_singleton]at hj;subst hj;unfold wpOp;simp only[hi];rw[if_pos (by simp[Region.wanted,hg])];exact .inl (h _ fun _ _ h1 h2=>⟨h1,h2⟩)
theorem pT{listed:Array Bool}{a:Act}{w:World}(hr:Region.ready md ops listed=[])(h:Q .normal a w):∀fuel,fI P md ops Q S L fuel listed a w
 | 0=>⟨hr,h⟩
 | _+1=>⟨fun _=>h,by rw[hr];simp⟩
theorem pU(S:World→Prop)(L:Nat){id:Nat}{a:Act}{w:World}(hm:P.follows .mixedOrders=true)
  (h:fI P .any ops Q S L ops.size (Array.replicate ops.size false) a w.drew):(Code.region id ops true).wp P Q a w:=
 wp_region_any hm (tQ _ _ _ _ h)
theorem aCC{i fd:Nat}(fh:∀k,L≤k→k<ops.size→dep md ops fd k i=true){oi:Oper}{v:Value}(hi:ops[i]?=some oi)(ur:∀(j:Nat) (o:Oper) cs b,ops[j]?=some o→o.op≠.select cs b)
  (hQ:∀c a w,Q (.panic c) (a.put oi.dst v) w→Q (.panic c) a w) (fuel:Nat):
  ∀(listed:Array Bool) (a:Act) (w:World),kM md ops listed→
   (∀j oj,ops[j]?=some oj→j≠i→listed.getD j true=false→(∀e∈oj.after,Region.binds md e=true→e.on≠i)→oi.apart ops oj=true)→
   i∈Region.ready md ops listed→YieldsIf P ops S oi v a→S w→
   fI P md ops Q S L fuel (listed.setIfInBounds i true) (a.put oi.dst v) w→fI P md ops Q S L (fuel+1) listed a w:=by
 induction fuel with
 | zero=>
  intro listed a w _ _ hr hy hS H;refine⟨fun h=>by simp[h]at hr,fun j hj=>?_⟩;by_cases dm:j=i
  ·subst dm
   exact hy.wpOp hi hS ⟨fun _=>hS,H⟩
  ·have hm:=ready_mono hj dm
   simp[H.1]at hm
 | succ fuel ih=>
  intro listed a w au ms hr hy hS H;refine⟨fun h=>by simp[h]at hr,fun j hj=>?_⟩;by_cases dm:j=i
  ·subst dm
   exact hy.wpOp hi hS ⟨fun _=>hS,H⟩
  ·have Wb:j<ops.size:=by
    obtain⟨_,oj,AX,_⟩:=mem_ready.1 hj;exact(Array.getElem?_eq_some_iff.1 AX).1
   have Mr:j<L:=Nat.lt_of_not_le fun e=>dm (uT au (fh j e Wb) hr hj).symm;obtain⟨ug,oj,AX,ay⟩:=mem_ready.1 hj;have Bm:∀e∈oj.after,Region.binds md e=true→e.on≠i:=fun e he hb GD=>by
    have h1:=ay e he hb;have h0:=(mem_ready.1 hr).1;rw[GD]at h1;simp only[Array.getD_eq_getD_getElem?]at h0 h1;cases hx:listed[i]? with
    | none=>simp[hx]at h0
    | some b=>simp[hx]at h0 h1;rw[h0]at h1;cases h1
   have h2:=wpOp_putIf AX (ms j oj AX dm ug Bm) (fun cs b=>ur i oi cs b hi) (fun cs b=>ur j oj cs b AX) hQ hy (H.2 j (ready_mono hj dm));refine wpOp_mono (fun a' w' h3=>?_) h2;obtain⟨pj,Cl,hE⟩:=h3;refine⟨Cl,ih (listed.setIfInBounds j true) a' w' (au.step hj) (fun k ok hk lq GM kq=>ms k ok hk lq ?_ kq) (ready_mono hr (Ne.symm dm)) pj (Cl Mr) ?_⟩
   ·by_cases hjk:j=k
    ·exact hjk▸ug
    ·rwa [getD_set_ne true hjk]at GM
   ·rw[Array.setIfInBounds_comm _ _ dm]
    exact hE
theorem cT{i:Nat}{oi:Oper}(t:Nat)(v:Value){fuel:Nat}{listed:Array Bool}{a:Act}{w:World}(fh:((List.range ops.size).all fun k=>decide (k<L) || dep md ops ops.size k i)=true)(sc:wD md ops listed=true)(hi:ops[i]?=some oi)
  (hs:Region.noSelect ops=true) (hf:Region.free md ops listed i=true) (hr:(Region.ready md ops listed).contains i=true)
  (hQ:∀c a w,Q (.panic c) (a.put oi.dst v) w→Q (.panic c) a w) (hg:oi.guard=none) (ht:oi.dst=some t) (hS:S w) (hy:∀w,S w→(execOp a.eval oi).run P w=.ok (.value v) w)
  (h:fI P md ops Q S L fuel (listed.setIfInBounds i true) (a.put (some t) v) w):fI P md ops Q S L (fuel+1) listed a w:=
 aCC (fd:=ops.size) (fun k hk hs=>by have:=List.all_eq_true.1 fh k (List.mem_range.2 hs);simp only[Bool.or_eq_true,decide_eq_true_eq]at this;exact this.resolve_left (by omega)) hi (Region.noSelect_spec hs) hQ fuel listed a w (mZ sc) (Region.free_spec hi hf) (by simpa using hr) (.inl ⟨by simp[Region.wanted,hg],hy⟩) hS (by rw[ht];exact h)
theorem aAH{i:Nat}(OS:L≤i){oi:Oper}{v:Value}(hi:ops[i]?=some oi)(ur:∀(j:Nat) (o:Oper) cs b,ops[j]?=some o→o.op≠.select cs b)
  (hQ:∀c a w,Q (.panic c) (a.put oi.dst v) w→Q (.panic c) a w) (fuel:Nat):
  ∀(listed:Array Bool) (a:Act) (w:World),
   (∀j oj,ops[j]?=some oj→j≠i→listed.getD j true=false→(∀e∈oj.after,Region.binds md e=true→e.on≠i)→oi.apart ops oj=true)→
   i∈Region.ready md ops listed→YieldsIf P ops (fun _=>True) oi v a→
   fI P md ops Q S L fuel (listed.setIfInBounds i true) (a.put oi.dst v) w→fI P md ops Q S L (fuel+1) listed a w:=by
 induction fuel with
 | zero=>
  intro listed a w _ hr hy H;refine⟨fun h=>by simp[h]at hr,fun j hj=>?_⟩;by_cases dm:j=i
  ·subst dm
   exact hy.wpOp hi trivial ⟨fun q=>absurd q (by omega),H⟩
  ·have hm:=ready_mono hj dm
   simp[H.1]at hm
 | succ fuel ih=>
  intro listed a w ms hr hy H;refine⟨fun h=>by simp[h]at hr,fun j hj=>?_⟩;by_cases dm:j=i
  ·subst dm
   exact hy.wpOp hi trivial ⟨fun q=>absurd q (by omega),H⟩
  ·obtain⟨ug,oj,AX,ay⟩:=mem_ready.1 hj
   have Bm:∀e∈oj.after,Region.binds md e=true→e.on≠i:=fun e he hb GD=>by
    have h1:=ay e he hb;have h0:=(mem_ready.1 hr).1;rw[GD]at h1;simp only[Array.getD_eq_getD_getElem?]at h0 h1;cases hx:listed[i]? with
    | none=>simp[hx]at h0
    | some b=>simp[hx]at h0 h1;rw[h0]at h1;cases h1
   have h2:=wpOp_putIf AX (ms j oj AX dm ug Bm) (fun cs b=>ur i oi cs b hi) (fun cs b=>ur j oj cs b AX) hQ hy (H.2 j (ready_mono hj dm));refine wpOp_mono (fun a' w' h3=>?_) h2;obtain⟨pj,Cl,hE⟩:=h3;refine⟨Cl,ih (listed.setIfInBounds j true) a' w' (fun k ok hk lq GM kq=>ms k ok hk lq ?_ kq) (ready_mono hr (Ne.symm dm)) pj ?_⟩
   ·by_cases hjk:j=k
    ·exact hjk▸ug
    ·rwa [getD_set_ne true hjk]at GM
   ·rw[Array.setIfInBounds_comm _ _ dm]
    exact hE
theorem tP{i:Nat}{oi:Oper}(t:Nat)(v:Value){fuel:Nat}{listed:Array Bool}{a:Act}{w:World}(OS:L≤i)(hi:ops[i]?=some oi)
  (hs:Region.noSelect ops=true) (hf:Region.free md ops listed i=true) (hr:(Region.ready md ops listed).contains i=true)
  (hQ:∀c a w,Q (.panic c) (a.put oi.dst v) w→Q (.panic c) a w) (hg:oi.guard=none) (ht:oi.dst=some t) (hy:∀w,(execOp a.eval oi).run P w=.ok (.value v) w)
  (h:fI P md ops Q S L fuel (listed.setIfInBounds i true) (a.put (some t) v) w):fI P md ops Q S L (fuel+1) listed a w:=
 aAH OS hi (Region.noSelect_spec hs) hQ fuel listed a w (Region.free_spec hi hf) (by simpa using hr) (.inl ⟨by simp[Region.wanted,hg],fun w _=>hy w⟩) (by rw[ht];exact h)
end
end Go.Proofs.YtaahkgkdpnnhhaaGreat
namespace Go.Proofs.YtaahkgkdpnnhhaaGreat
open Go.RowKit Fo
variable{a:Act}{p:Addr}{ops:Array Oper}{cs:Array Value}{Q:Exit→Act→World→Prop}{g i:Nat}{S:Nat→Prop}{o:Oper}{P:Program}{α:Type}{t:TypeId}{w w':World}
def IsC(w:World)(g:Nat)(cs:Array Value)(t:TypeId):Prop:=w.heap[g]?=some (.cells cs t (0,0))
theorem IsC.lt(h:IsC w g cs t):g<w.heap.size:=(Array.getElem?_eq_some_iff.1 h).1
theorem IsC.cell(h:IsC w g cs t)(i:Nat):w.cell? ⟨g,i,none⟩=cs[i]?:=by
 unfold IsC at h;simp[World.cell?,h]
theorem IsC.frozen(h:IsC w g cs t)(i:Nat):w.frozen? ⟨g,i,none⟩=false:=by
 unfold IsC at h;simp[World.frozen?,h]
theorem IsC.of(h:IsC w g cs t)(he:w'.heap[g]?=w.heap[g]?):IsC w' g cs t:=he.trans h
theorem IsC.drew(h:IsC w g cs t):IsC w.drew g cs t:=h
theorem mA(w:World)(o:Obj)(h:g<w.heap.size):(w.alloc o).heap[g]?=w.heap[g]?:=by
 have:=((bQ w.heap.size w).alloc (nR _) o).block g h
 exact this
theorem IsC.alloc(h:IsC w g cs t)(o:Obj):IsC (w.alloc o) g cs t:=h.of (mA w o h.lt)
theorem IsC.new(w:World)(cs:Array Value)(t:TypeId):IsC (w.alloc (.cells cs t)) w.heap.size cs t:=by
 show(w.heap.push _)[w.heap.size]?=_
 simp
theorem IsC.c(h:IsC w g cs t){k:Nat}{v:Value}(e:cs[k]?=some v):w.cell? ⟨g,k,none⟩=some v:=(h.cell k).trans e
theorem iNw{w1:World}(h:w.alloc (.cells cs t)=w1)(hg:w.heap.size=g):IsC w1 g cs t:=by rw[←h,←hg];exact IsC.new _ _ _
theorem aZ(w:World)(v:Value)(h:g≠p.block):(w.setCell p v).heap[g]?=w.heap[g]?:=by
 simp[World.setCell,Array.getElem?_modify,Ne.symm h]
theorem IsC.set(h:IsC w g cs t)(i:Nat)(v:Value):IsC (w.setCell ⟨g,i,none⟩ v) g (cs.setIfInBounds i v) t:=by
 unfold IsC at *;simp[World.setCell,Array.getElem?_modify,h]
theorem IsC.set_ne(h:IsC w g cs t)(v:Value)(hp:g≠p.block):IsC (w.setCell p v) g cs t:=h.of (aZ w v hp)
def aJ(e:E3):List Value:=[.string e.1,.string e.2.1,.int .i64 e.2.2]
def bW(es:List E3):Array Value:=(es.flatMap aJ).toArray
theorem aG(es:List E3):(es.flatMap aJ).length=es.length*3:=by
 induction es with
 | nil=>rfl
 | cons e es ih=>simp only[List.flatMap_cons,lP,ih,List.length_cons];simp[aJ];omega
theorem fV(es:List E3):(bW es).size=es.length*3:=by unfold bW;rw[List.size_toArray,aG]
theorem kT(es:List E3)(hi:i<es.length):(es.flatMap aJ)[i*3]?=some (.string (es.getD i e0).1)∧(es.flatMap aJ)[i*3+1]?=some (.string (es.getD i e0).2.1)∧(es.flatMap aJ)[i*3+2]?=some (.int .i64 (es.getD i e0).2.2):=by
 induction es generalizing i with
 | nil=>simp at hi
 | cons e es ih=>
  cases i with
  | zero=>simp[aJ]
  | succ i=>
   have:=ih (i:=i) (by simpa using hi)
   have e1:(e :: es).flatMap aJ=aJ e++es.flatMap aJ:=List.flatMap_cons;have l3:(aJ e).length=3:=rfl;rw[e1];rw[List.getElem?_append_right (by rw[l3];omega),List.getElem?_append_right (by rw[l3];omega),List.getElem?_append_right (by rw[l3];omega),l3];rw[show(i+1)*3-3=i*3 by omega,show(i+1)*3+1-3=i*3+1 by omega,show(i+1)*3+2-3=i*3+2 by omega];simpa using this
theorem aHW(es:List E3)(hi:i<es.length):(bW es)[i*3]?=some (.string (es.getD i e0).1)∧(bW es)[i*3+1]?=some (.string (es.getD i e0).2.1)∧(bW es)[i*3+2]?=some (.int .i64 (es.getD i e0).2.2):=by
 simpa [bW] using kT es hi
def adr(a:Option Nat):Option Addr:=a.map fun g=>⟨g,0,none⟩
structure aK(w:World)(q:Nat)(d:Nd)(a:Option Nat)(junk:List E3):Prop where
 box:IsC w q #[.int .i64 d.1,.slice (adr a) d.2.length (d.2.length+junk.length)] 108
 arr:∀g,a=some g→IsC w g (bW (d.2++junk)) 110∧g≠q
 nil:a=none→d.2=[]∧junk=[]
 small:d.2.length+junk.length≤maxLen
theorem nI(q:Nat)(d:Nd)(a:Option Nat)(junk:List E3)(w:World)(h:aK w q d a junk):
  Calls Tryz.prog 116 #[.pointer (some ⟨q,0,none⟩)] w fun e w'=>e=.returned (.bool (decide (d.2.length=5)))∧w'=w:=by
 have h1:w.cell? ⟨q,1,none⟩=some (.slice (adr a) d.2.length (d.2.length+junk.length)):=by rw[h.box.cell];rfl
 have hs:d.2.length+junk.length≤9223372036854775807:=by have:=h.small;simp[maxLen]at this;omega
 go_enter Tryz.func116,Tryz.ntmps116
 go_wp2
 go_ret
 exact⟨by simp;congr 1;rw[Bool.eq_iff_iff];simp;omega,rfl⟩
def spl(l:List α)(o:Nat)(vs:List α):List α:=l.take o++vs++l.drop (o+vs.length)
theorem aKO(l:List α)(o:Nat):spl l o []=l:=by simp[spl]
theorem aIF(l:List α)(o:Nat)(v:α)(vs:List α)(h:o<l.length):spl (l.set o v) (o+1) vs=spl l o (v :: vs):=by
 unfold spl;have e1:(l.set o v).take (o+1)=l.take o++[v]:=by
  rw[List.set_eq_take_append_cons_drop,if_pos h,List.take_append,List.length_take,List.take_take];rw[show o+1-min o l.length=1 by omega,show min (o+1) o=o by omega];rfl
 have e2:(l.set o v).drop (o+1+vs.length)=l.drop (o+(v :: vs).length):=by
  rw[List.drop_set_of_lt (by omega)];congr 1;simp;omega
 rw[e1,e2];simp
theorem IsC.sets:∀(vs:List Value) {w:World} {cs:List Value} (o:Nat),IsC w g cs.toArray t→o+vs.length≤cs.length→IsC (w.setCells g o vs) g (spl cs o vs).toArray t
 | [],w,cs,o,h,hl=>by rw[aKO];exact h
 | v :: vs,w,cs,o,h,hl=>by
  simp only[List.length_cons]at hl;have h1:IsC (w.setCell ⟨g,o,none⟩ v) g (cs.set o v).toArray t:=by
   have:=h.set o v
   rwa [List.setIfInBounds_toArray]at this
  have:=IsC.sets vs (o+1) h1 (by simp;omega)
  rw[aIF _ _ _ _ (by omega)]at this;exact this
theorem jK:∀(vs:List Value) (w:World) (o:Nat) {k:Nat},k≠g→(w.setCells g o vs).heap[k]?=w.heap[k]?
 | [],_,_,_,_=>rfl
 | v :: vs,w,o,k,h=>by
  show((w.setCell ⟨g,o,none⟩ v).setCells g (o+1) vs).heap[k]?=_
  rw[jK vs _ _ h,aZ _ _ h]
theorem cZ:∀(vs:List Value) (w:World) (o:Nat),(w.setCells g o vs).heap.size=w.heap.size
 | [],_,_=>rfl
 | v :: vs,w,o=>by
  show((w.setCell ⟨g,o,none⟩ v).setCells g (o+1) vs).heap.size=_
  rw[cZ vs];simp
structure Frm(S:Nat→Prop)(w w':World):Prop where
 os:w'.os=w.os
 tape:w'.tape=w.tape
 output:w'.output=w.output
 size:w.heap.size≤w'.heap.size
 block:∀k,k<w.heap.size→¬S k→w'.heap[k]?=w.heap[k]?
theorem Frm.refl(S:Nat→Prop)(w:World):Frm S w w:=⟨rfl,rfl,rfl,nR _,fun _ _ _=>rfl⟩
theorem Frm.trans{a b c:World}(h:Frm S a b)(k:Frm S b c):Frm S a c:=
 ⟨k.os.trans h.os,k.tape.trans h.tape,k.output.trans h.output,lT h.size k.size,fun i hi hn=>(k.block i (lL hi h.size) hn).trans (h.block i hi hn)⟩
theorem Frm.wide{S':Nat→Prop}(h:Frm S w w')(hs:∀k,k<w.heap.size→S k→S' k):Frm S' w w':=⟨h.os,h.tape,h.output,h.size,fun k hk hn=>h.block k hk fun q=>hn (hs k hk q)⟩
theorem Frm.of_below(h:Bl w w'):Frm S w w':=⟨h.os,h.tape,h.output,h.size,fun k hk _=>h.block k hk⟩
theorem Frm.below{B:Nat}(h:Frm S w w')(hB:B≤w.heap.size)(hS:∀k,S k→B≤k):Below B w w':=⟨h.os,h.tape,h.output,h.size,fun k hk=>h.block k (by omega) fun q=>by have:=hS k q;omega⟩
theorem gH:∀(vs:List Value) (w:World) (o:Nat),(w.setCells g o vs).os=w.os∧(w.setCells g o vs).tape=w.tape∧(w.setCells g o vs).output=w.output
 | [],_,_=>⟨rfl,rfl,rfl⟩
 | v :: vs,w,o=>gH vs (w.setCell ⟨g,o,none⟩ v) (o+1)
theorem Frm.sets(w:World)(hg:S g)(o:Nat)(vs:List Value):Frm S w (w.setCells g o vs):=
 ⟨(gH vs w o).1,(gH vs w o).2.1,(gH vs w o).2.2,by rw[cZ];exact nR _,fun k _ hn=>jK vs w o fun e=>hn (e▸hg)⟩
theorem Frm.set(w:World)(hp:S p.block)(u:Value):Frm S w (w.setCell p u):=
 ⟨rfl,rfl,rfl,by simp,fun k _ hn=>aZ w u fun e=>hn (e▸hp)⟩
theorem Frm.alloc(S:Nat→Prop)(w:World)(o:Obj):Frm S w (w.alloc o):=Frm.of_below ((bQ w.heap.size w).alloc (nR _) o)
theorem Frm.drew(S:Nat→Prop)(w:World):Frm S w w.drew:=⟨rfl,rfl,rfl,nR _,fun _ _ _=>rfl⟩
theorem IsC.frm(h:IsC w g cs t)(k:Frm S w w')(hn:¬S g):IsC w' g cs t:=h.of (k.block g h.lt hn)
theorem aLT:(Tryz.prog.info? 110).map (fun i=>(i.zero,i.size,i.bytes))=some (some (.agg #[.string .empty,.string .empty,.int .i64 0]),3,40):=by kernel_rfl
theorem pJ:∃i,Tryz.prog.info? 110=some i∧i.size=3∧i.bytes=40∧i.zero=some (.agg #[.string .empty,.string .empty,.int .i64 0]):=by
 have h:=aLT;cases e:Tryz.prog.info? 110 with
 | none=>rw[e]at h;cases h
 | some i=>
  rw[e]at h;simp only[Option.map_some,sJ,Prod.mk.injEq]at h;exact⟨i,rfl,h.2.1,h.2.2,h.1⟩
theorem lU(w:World)(ty:TypeId)(b o dLen dCap:Nat)(a:Addr)(sLen sCap:Nat)(cs:List Value)(hn:cs.length=Nat.min sLen dLen*3)
  (d8:∀j v,cs[j]?=some v→w.cell? (a.add j)=some v) (hc:∀j,j<cs.length→(w.cell? ⟨b,o+j,none⟩).isSome=true) (hf:∀j,j<cs.length→w.frozen? ⟨b,o+j,none⟩=false) (h1:∀v∈cs,v.oneCell'=true):
  (Builtin.copy_ #[106,106] ty #[.slice (some ⟨b,o,none⟩) dLen dCap,.slice (some a) sLen sCap]).run Tryz.prog w=.ok (goInt (Nat.min sLen dLen)) (w.setCells b o cs):=by
 have hl:=run_loadCells_list (P:=Tryz.prog) w a cs d8;have qh:=run_storeCells_cells (P:=Tryz.prog) b o cs 0 w (by simpa using hc) (by simpa using hf) h1;obtain⟨i,hi,h3,_,_⟩:=pJ;simp[Builtin.copy_,run_underlying Tryz.underlying106,Builtin.lenOf,Builtin.firstCells,sizeOf,typeInfo,hi,h3,←hn,hl,qh]
theorem eD(es:List E3):∀v∈es.flatMap aJ,v.oneCell'=true:=fun v hv=>by
 obtain⟨e,_,he⟩:=List.mem_flatMap.1 hv;simp only[aJ,List.mem_cons,List.not_mem_nil,or_false]at he;rcases he with rfl | rfl | rfl<;>rfl
theorem gM(xs ys:List E3)(i:Nat):spl (xs.flatMap aJ) (i*3) (ys.flatMap aJ)=(spl xs i ys).flatMap aJ:=by
 have tk:∀(l:List E3) (n:Nat),(l.flatMap aJ).take (n*3)=(l.take n).flatMap aJ:=by
  intro l;induction l with
  | nil=>intro n;simp
  | cons e l ih=>
   intro n;cases n with
   | zero=>simp
   | succ n=>
    have l3:(aJ e).length=3:=rfl;rw[List.flatMap_cons,List.take_succ_cons,List.flatMap_cons,List.take_append,l3,List.take_of_length_le (by rw[l3];omega),show(n+1)*3-3=n*3 by omega,ih]
 have dr:∀(l:List E3) (n:Nat),(l.flatMap aJ).drop (n*3)=(l.drop n).flatMap aJ:=by
  intro l;induction l with
  | nil=>intro n;simp
  | cons e l ih=>
   intro n;cases n with
   | zero=>simp
   | succ n=>
    have l3:(aJ e).length=3:=rfl;rw[List.flatMap_cons,List.drop_succ_cons,List.drop_append,l3,List.drop_of_length_le (by rw[l3];omega),show(n+1)*3-3=n*3 by omega,ih,List.nil_append]
 unfold spl;rw[tk,aG,←Nat.add_mul,dr,List.flatMap_append,List.flatMap_append]
def Esl(w:World)(v:Value)(es:List E3):Prop:=
 (v=.slice none 0 0∧es=[])∨∃g o cap xs,v=.slice (some ⟨g,o*3,none⟩) es.length cap∧IsC w g (bW xs) 110∧o+es.length≤xs.length∧(xs.drop o).take es.length=es
theorem Esl.cells{o:Nat}{xs es:List E3}(h:IsC w g (bW xs) 110)(hl:o+es.length≤xs.length)(he:(xs.drop o).take es.length=es):∀j v,(es.flatMap aJ)[j]?=some v→w.cell? ((⟨g,o*3,none⟩:Addr).add j)=some v:=fun j v hj=>by
 have tw:(⟨g,o*3,none⟩:Addr).add j=⟨g,o*3+j,none⟩:=by unfold Addr.add;split<;>simp_all
 rw[tw,h.cell];have e1:spl (xs.flatMap aJ) (o*3) (es.flatMap aJ)=xs.flatMap aJ:=by
  rw[gM];congr 1;unfold spl;rw[←he,List.length_take,List.length_drop,List.append_assoc];rw[show min es.length (xs.length-o)=es.length by omega];rw[←List.drop_drop,List.take_append_drop,List.take_append_drop]
 have yg:j <(es.flatMap aJ).length:=(List.getElem?_eq_some_iff.1 hj).1;have:(bW xs)[o*3+j]?=(xs.flatMap aJ)[o*3+j]?:=by simp[bW]
 rw[this,←e1];unfold spl;have pr:((xs.flatMap aJ).take (o*3)).length=o*3:=by
  rw[List.length_take,aG];omega
 rw[List.append_assoc,List.getElem?_append_right (by omega),pr,show o*3+j-o*3=j by omega,List.getElem?_append_left yg];exact hj
theorem aDL(m:Nat):Builtin.zeroCells #[.string .empty,.string .empty,.int .i64 0] m=((List.replicate m e0).flatMap aJ).toArray:=by
 apply Array.toList_inj.1
 simp only[Builtin.zeroCells,List.size_toArray,List.length_cons,List.length_nil,Array.toList_map,Array.toList_range];induction m with
 | zero=>rfl
 | succ m ih=>
  have hr:List.range ((m+1)*3)=List.range (m*3)++[m*3,m*3+1,m*3+2]:=by
   rw[show(m+1)*3=m*3+1+1+1 by omega,List.range_succ,List.range_succ,List.range_succ];simp
  have hp:List.replicate (m+1) e0=List.replicate m e0++[e0]:=List.replicate_succ';rw[hp,List.flatMap_append,←ih];simp only[Nat.zero_add,Nat.reduceAdd];rw[hr,List.map_append];congr 1;simp only[List.map_cons,List.map_nil,show m*3 % 3=0 by omega,show(m*3+1) % 3=1 by omega,show(m*3+2) % 3=2 by omega];rfl
theorem cG{rest:List Oper}(ik:o.guard=none)(s x:Operand)(t tn:TypeId)
  (ho:o.op=.call {callee:=.builtin .append,args:=#[s,x],argTypes:=#[t,tn]}) (vs vx:Value) (hs:a.eval s=vs) (hx:a.eval x=vx)
  (v':Value) (w':World) (hr:(Builtin.append_ #[t,tn] o.type #[vs,vx]).run P w=.ok v' w') (h:wpList P ops Q rest (a.put o.dst v') w'):wpList P ops Q (o :: rest) a w:=by
 refine wpList_plain ik fun K hK=>?_;unfold Oper.wp execOp;simp only[ho,resolve,invoke,builtin,Sem.run_bind,Sem.run_pure,Result.andThen_ok,List.map_toArray,List.map_cons,List.map_nil,hs,hx,hr];exact hK _ _ h
structure aMV(w w':World)(v:Value)(es:List E3):Prop where
 ex:∃a junk,v=.slice (adr a) es.length (es.length+junk.length)∧(∀g,a=some g→w.heap.size≤g∧IsC w' g (bW (es++junk)) 110)∧(a=none→es=[]∧junk=[])∧es.length+junk.length≤maxLen
 below:Bl w w'
theorem oQ(v:Value)(es:List E3)(w:World)(hv:Esl w v es)(fj:es.length≤10):
  Calls Tryz.prog 152 #[v] w fun e w'=>∃v',e=.returned v'∧aMV w w' v' es:=by
 obtain⟨i,hi,h3,Aj,hz⟩:=pJ;rcases hv with⟨rfl,rfl⟩ | ⟨g,o,cap,xs,rfl,hx,hl,he⟩
 ·have AV:=fun w=>Lib.run_eql_slice_nil (P:=Tryz.prog) w 106 110 none 0 0 0 0 Tryz.underlying106
  go_enter Tryz.func152,Tryz.ntmps152
  go_wp2
  go_ret
  exact⟨_,rfl,⟨none,[],by simp[adr],fun g q=>(by cases q),fun _=>⟨rfl,rfl⟩,by simp⟩,bQ _ _⟩
 ·have AV:=fun w=>Lib.run_eql_slice_nil (P:=Tryz.prog) w 106 110 (some ⟨g,o*3,none⟩) es.length cap 0 0 Tryz.underlying106
  have yt:IsC (w.alloc (.cells #[] 110)) g (bW xs) 110:=hx.alloc _;have d8:=Src.ofSlice (P:=Tryz.prog) (w.alloc (.cells #[] 110)) (size:=i.size) (tx:=106) Tryz.underlying106 ⟨g,o*3,none⟩ es.length cap (es.flatMap aJ) (by rw[aG,h3]) (Esl.cells yt hl he) (eD es);have hB:=(bQ w.heap.size w).alloc (nR _) (.cells #[] 110);by_cases h0:es.length=0
  ·have e0:es=[]:=List.length_eq_zero_iff.1 h0
   subst e0;have M6:=fun w=>Lib.run_eql_slice_nil (P:=Tryz.prog) w 106 110 (some ⟨g,o*3,none⟩) 0 cap 0 0 Tryz.underlying106;have hr:=fun ty=>run_append_room_src (P:=Tryz.prog) (w.alloc (.cells #[] 110)) 106 106 ty 110 i Tryz.underlying106 hi w.heap.size 0 0 0 _ 0 [] d8 (by omega) (fun j hj=>by simp at hj) (fun j hj=>by simp at hj);go_enter Tryz.func152,Tryz.ntmps152;go_wp2_with (at_builtin;refine cG rfl _ _ _ _ rfl (.slice (some ⟨w.heap.size,0,none⟩) 0 0) (.slice (some ⟨g,o*3,none⟩) 0 cap) rfl rfl _ _ (hr _) ?_);go_ret;exact⟨_,rfl,⟨some w.heap.size,[],by simp[adr],fun g q=>(by cases q;exact⟨nR _,IsC.new _ _ _⟩),fun q=>(by cases q),by simp⟩,hB⟩
  ·have sn:(Builtin.firstCells i.size 0 (.slice (some ⟨w.heap.size,0,none⟩) 0 0)).run Tryz.prog (w.alloc (.cells #[] 110)).drew=.ok ([]:List Value).toArray (w.alloc (.cells #[] 110)).drew:=by
    have:=run_firstCells_some (P:=Tryz.prog) (w.alloc (.cells #[] 110)).drew i.size 0 ⟨w.heap.size,0,none⟩ 0 0 [] (by simp) (fun j v hj=>by simp at hj)
    exact this
   have hr:=fun ty=>run_append_grow_src (P:=Tryz.prog) (w.alloc (.cells #[] 110)) 106 106 ty 110 i _ Tryz.underlying106 hi hz (some ⟨w.heap.size,0,none⟩) 0 0 [] sn _ es.length (es.flatMap aJ) d8 (by omega) (by omega) (by rw[nextslicecap_zero (by omega),Aj];omega);go_enter Tryz.func152,Tryz.ntmps152;go_wp2_with (at_builtin;refine cG rfl _ _ _ _ rfl (.slice (some ⟨w.heap.size,0,none⟩) 0 0) (.slice (some ⟨g,o*3,none⟩) es.length cap) rfl rfl _ _ (hr _) ?_);go_ret;have xz:=grownCap_ge (w.alloc (.cells #[] 110)) es.length 0 110;have pr:=grownCap_le_maxLen (w.alloc (.cells #[] 110)) es.length 0 110 (by simp[maxLen];omega);generalize grownCap (w.alloc (.cells #[] 110)) es.length 0 110=gc at *;refine⟨_,rfl,⟨some (w.heap.size+1),List.replicate (gc-es.length) e0,?_,fun g q=>?_,fun q=>(by cases q),?_⟩,?_⟩
   ·simp[adr];omega
   ·cases q
    refine⟨by omega,?_⟩;have:=IsC.new (w.alloc (.cells #[] 110)) ((es.flatMap aJ).toArray++Builtin.zeroCells #[.string .empty,.string .empty,.int .i64 0] (gc-es.length)) 110;rw[World.size_alloc]at this;rw[aDL]at this ⊢;simpa [bW] using this.drew
   ·simp;omega
   ·exact(hB.alloc (by simp) _).drew
theorem xL{K:Act→World→Prop}{E:Prop}(ik:o.guard=none)(s x:Operand)(t tn:TypeId)
  (ho:o.op=.call {callee:=.builtin .append,args:=#[s,x],argTypes:=#[t,tn]}) (vs vx:Value) (hs:a.eval s=vs) (hx:a.eval x=vx)
  (v':Value) (w':World) (hr:(Builtin.append_ #[t,tn] o.type #[vs,vx]).run P w=.ok v' w') (h:K (a.put o.dst v') w'):if Region.wanted o (yielded ops a.tmps)=true then Oper.wp P o a w K Q else E:=by
 rw[if_pos (by simp[Region.wanted,ik])];unfold Oper.wp execOp;simp only[ho,resolve,invoke,builtin,Sem.run_bind,Sem.run_pure,Result.andThen_ok,List.map_toArray,List.map_cons,List.map_nil,hs,hx,hr];exact h
theorem aBM(w:World)(ty:TypeId)(b o n cap:Nat)(hn:0<n)(hc:∀j,j<n*3→(w.cell? ⟨b,o+j,none⟩).isSome=true)(hf:∀j,j<n*3→w.frozen? ⟨b,o+j,none⟩=false):
  (Builtin.clear_ #[106] ty #[.slice (some ⟨b,o,none⟩) n cap]).run Tryz.prog w=.ok (.tuple #[]) (w.setCells b o ((List.replicate n e0).flatMap aJ)):=by
 have hl:((List.replicate n e0).flatMap aJ).length=n*3:=by rw[aG];simp
 have qh:=run_storeCells_cells (P:=Tryz.prog) b o ((List.replicate n e0).flatMap aJ) 0 w (by rw[hl];simpa using hc) (by rw[hl];simpa using hf) (eD _);obtain⟨i,hi,h3,_,hz⟩:=pJ;have ru:(zeroValue 110).run Tryz.prog w=.ok (.agg #[.string .empty,.string .empty,.int .i64 0]) w:=by
  simp[zeroValue,typeInfo,hi,hz]
 have au:(Value.agg #[.string .empty,.string .empty,.int .i64 0]).cells=#[.string .empty,.string .empty,.int .i64 0]:=by kernel_rfl
 have Nj:(Builtin.zeroCells (Value.agg #[.string .empty,.string .empty,.int .i64 0]).cells n).toList=(List.replicate n e0).flatMap aJ:=by rw[au,aDL]
 generalize (Value.agg #[.string .empty,.string .empty,.int .i64 0])=Z at ru Nj;generalize (List.replicate n e0).flatMap aJ=L at *;obtain⟨m,rfl⟩:∃m,n=m+1:=⟨n-1,by omega⟩;simp at qh;simp[Builtin.clear_,run_underlying Tryz.underlying106,ru,Nj,qh]
theorem rB(g:Nat)(es junk:List E3)(i j:Nat)(w:World)(hx:IsC w g (bW (es++junk)) 110)(g8:i<j)(hj:j≤es.length)(fj:es.length≤10)(hm:es.length+junk.length≤maxLen):
  Calls Tryz.prog 144 #[.slice (some ⟨g,0,none⟩) es.length (es.length+junk.length),.int .i64 i,.int .i64 j] w fun e w'=>e=.returned (.slice (some ⟨g,0,none⟩) (es.length -(j-i)) (es.length+junk.length))∧IsC w' g (bW (es.take i++es.drop j++(List.replicate (j-i) e0++junk))) 110∧Frm (fun k=>k=g) w w':=by
 obtain⟨i0,hi,h3,Aj,hz⟩:=pJ;have g9:es.length+junk.length≤9223372036854775807:=by simp[maxLen]at hm;omega
 have av:((i:Int) ==(j:Int))=false:=by rw[beq_eq_false_iff_ne];omega
 have ao:(i:Int)≤(es.length:Int)+(junk.length:Int):=by omega
 obtain⟨ad,hA,hA'⟩:∃ad:Addr,(if es.length+junk.length=j then some (⟨g,0,none⟩:Addr)else some ⟨g,j*3,none⟩)=some ad∧(0<es.length-j→ad=⟨g,j*3,none⟩):=by
  by_cases e:es.length+junk.length=j
  ·exact⟨⟨g,0,none⟩,by rw[if_pos e],fun q=>by omega⟩
  ·exact⟨⟨g,j*3,none⟩,by rw[if_neg e],fun _=>rfl⟩
 have fg:(es.drop j).length=es.length-j:=List.length_drop;have d8:∀W:World,IsC W g (bW (es++junk)) 110→Src Tryz.prog i0.size 106 (.slice (some ad) (es.length-j) (es.length+junk.length-j)) (es.length-j) ((es.drop j).flatMap aJ) W:=fun W hW=>by
  refine Src.ofSlice W Tryz.underlying106 ad _ _ _ (by rw[aG,h3,fg]) ?_ (eD _);by_cases q:0<es.length-j
  ·rw[hA' q]
   refine Esl.cells hW (by rw[fg,lP];omega) ?_;rw[List.drop_append,fg,List.take_append,fg];rw[List.take_of_length_le (by rw[fg];exact nR _)];simp
  ·have e:es.drop j=[]:=List.length_eq_zero_iff.1 (by omega)
   rw[e];intro k v hk;simp at hk
 have bd:(bW (es++junk)).size=(es.length+junk.length)*3:=by rw[fV,lP]
 have hr:∀W:World,IsC W g (bW (es++junk)) 110→∀ty,(Builtin.append_ #[106,106] ty #[.slice (some ⟨g,0,none⟩) i (es.length+junk.length),.slice (some ad) (es.length-j) (es.length+junk.length-j)]).run Tryz.prog W=.ok (.slice (some ⟨g,0,none⟩) (i+(es.length-j)) (es.length+junk.length)) (W.setCells g (i*3) ((es.drop j).flatMap aJ)):=fun W hW ty=>by
  have:=run_append_room_src (P:=Tryz.prog) W 106 106 ty 110 i0 Tryz.underlying106 hi g 0 i (es.length+junk.length) _ _ _ (d8 W hW) (by omega)
   (fun k hk=>by rw[aG,fg]at hk;rw[hW.cell,h3,Array.getElem?_eq_getElem (by rw[bd];omega)];rfl) (fun k hk=>hW.frozen _)
  rw[h3,Nat.zero_add]at this;exact this
 clear d8 fg;obtain⟨lo,mw⟩:∃lo,lo=i+(es.length-j):=⟨_,rfl⟩;have jo:∀W:World,IsC W g (bW (es++junk)) 110→∀ty,(Builtin.append_ #[106,106] ty #[.slice (some ⟨g,0,none⟩) i (es.length+junk.length),.slice (some ad) (es.length-j) (es.length+junk.length-j)]).run Tryz.prog W=.ok (.slice (some ⟨g,0,none⟩) lo (es.length+junk.length)) (W.setCells g (i*3) ((es.drop j).flatMap aJ)):=fun W hW ty=>by rw[mw];exact hr W hW ty
 clear hr;have HL:Hid (lo=i+(es.length-j)):=mw;have q1:¬es.length+junk.length=lo:=by omega
 have q2:(lo:Int)≤(es.length:Int):=by omega
 have q3:(es.length:Int)≤(es.length:Int)+(junk.length:Int):=by omega
 have q4:lo<es.length:=by omega
 clear mw;have pt:∀W:World,IsC W g (bW (es++junk)) 110→IsC (W.setCells g (i*3) ((es.drop j).flatMap aJ)) g (bW (spl (es++junk) i (es.drop j))) 110:=fun W hW=>by
  have:=IsC.sets ((es.drop j).flatMap aJ) (cs:=(es++junk).flatMap aJ) (i*3) hW (by rw[aG,aG,lP,List.length_drop];omega)
  rw[gM]at this;exact this
 have kr:(spl (es++junk) i (es.drop j)).length=es.length+junk.length:=by
  unfold spl;simp only[lP,List.length_take,List.length_drop];omega
 have au:∀W:World,IsC W g (bW (spl (es++junk) i (es.drop j))) 110→∀ty c,(Builtin.clear_ #[106] ty #[.slice (some ⟨g,lo*3,none⟩) (es.length-lo) c]).run Tryz.prog W=.ok (.tuple #[]) (W.setCells g (lo*3) ((List.replicate (es.length-lo) e0).flatMap aJ)):=fun W hW ty c=>
  aBM W ty g (lo*3) (es.length-lo) c (by omega) (fun k hk=>by rw[hW.cell,Array.getElem?_eq_getElem (by rw[fV,kr];omega)];rfl) (fun k hk=>hW.frozen _)
 go_enter Tryz.func144,Tryz.ntmps144
 go_wp2_with fail
 go_region_law (refine xL (by rfl) _ _ _ _ (by rfl) (.slice (some ⟨g,0,none⟩) i (es.length+junk.length)) (.slice (some ad) (es.length-j) (es.length+junk.length-j)) (by rfl) (by rfl) _ _ (jo _ (by first | exact hx | exact hx.drew | exact hx.drew.drew) _) ?_)
 have WC:=au (w.drew.setCells g (i*3) ((es.drop j).flatMap aJ)) (pt _ hx.drew);go_wp2;go_ret;have e:=HL.out;have be:=IsC.sets ((List.replicate (es.length-lo) e0).flatMap aJ) (cs:=(spl (es++junk) i (es.drop j)).flatMap aJ) (lo*3) (pt _ hx.drew) (by rw[aG,aG,kr,List.length_replicate];omega);rw[gM]at be;have AS:spl (spl (es++junk) i (es.drop j)) lo (List.replicate (es.length-lo) e0)=es.take i++es.drop j++(List.replicate (j-i) e0++junk):=by
  have l2:(es.take i++es.drop j).length=lo:=by simp only[lP,List.length_take,List.length_drop];omega
  have hX:spl (es++junk) i (es.drop j)=es.take i++es.drop j++(es++junk).drop lo:=by
   unfold spl;rw[List.take_append_of_le_length (by omega),List.length_drop,show i+(es.length-j)=lo by omega]
  rw[hX];unfold spl;have t1:(es.take i++es.drop j++(es++junk).drop lo).take lo=es.take i++es.drop j:=by
   have tl:∀(A Y:List E3),A.length=lo→(A++Y).take lo=A:=fun A Y h=>by rw[←h];exact List.take_left
   exact tl _ _ l2
  have t2:(es.take i++es.drop j++(es++junk).drop lo).drop (lo+(List.replicate (es.length-lo) e0).length)=junk:=by
   rw[List.length_replicate,←List.drop_drop];have dl:∀(A Y:List E3),A.length=lo→(A++Y).drop lo=Y:=fun A Y h=>by rw[←h];exact List.drop_left
   rw[dl _ _ l2,List.drop_drop,show lo+(es.length-lo)=es.length by omega];exact List.drop_left
  rw[t1,t2,show es.length-lo=j-i by omega,List.append_assoc]
 rw[AS]at be;refine⟨by rw[show es.length -(j-i)=lo by omega];simp,be.drew,?_⟩;exact(((Frm.drew (fun k=>k=g) w).trans (Frm.sets (S:=fun k=>k=g) _ rfl _ _)).trans (Frm.sets (S:=fun k=>k=g) _ rfl _ _)).trans (Frm.refl _ _)
theorem aIG(es junk vs:List E3)(h:vs.length≤junk.length):spl (es++junk) es.length vs=es++vs++junk.drop vs.length:=by
 unfold spl;rw[List.take_left,←List.drop_drop,List.drop_left]
theorem aDE(l:List α)(o:Nat)(vs:List α)(h:o+vs.length≤l.length):(spl l o vs).length=l.length:=by
 unfold spl;simp only[lP,List.length_take,List.length_drop];omega
theorem aLB{need old:Nat}(h:need≤20)(ho:old<need):Builtin.nextslicecap need old*40≤281474976710656:=by
 have:=growslice_fits (bytes:=40) (need:=need) (old:=old) (by omega) (by omega)
 exact this
theorem xS(a:Option Nat)(es junk vs:List E3)(v:Value)(W:World)(ha:∀g,a=some g→IsC W g (bW (es++junk)) 110)(hn:a=none→es=[]∧junk=[])(hv:Esl W v vs)(Ai:es.length+vs.length≤20)(hm:es.length+junk.length≤maxLen):
  ∃u W' a' junk',(∀ty,(Builtin.append_ #[106,106] ty #[.slice (adr a) es.length (es.length+junk.length),v]).run Tryz.prog W=.ok u W')∧u=.slice (adr a') (es.length+vs.length) (es.length+vs.length+junk'.length)∧
   (∀g,a'=some g→IsC W' g (bW (es++vs++junk')) 110∧(a=some g∨W.heap.size≤g))∧(a'=none→es=[]∧vs=[]∧junk'=[])∧es.length+vs.length+junk'.length≤maxLen∧Frm (fun k=>a=some k) W W':=by
 obtain⟨i0,hi,h3,Aj,hz⟩:=pJ;have d8:Src Tryz.prog i0.size 106 v vs.length (vs.flatMap aJ) W:=by
  rcases hv with⟨rfl,rfl⟩ | ⟨gv,o,cap,xs,rfl,hx,hl,he⟩
  ·exact Src.ofNil W Tryz.underlying106 0
  ·exact Src.ofSlice W Tryz.underlying106 ⟨gv,o*3,none⟩ vs.length cap _ (by rw[aG,h3]) (Esl.cells hx hl he) (eD vs)
 by_cases jq:vs.length≤junk.length
 ·cases a with
  | none=>
   obtain⟨rfl,rfl⟩:=hn rfl;have GN:vs=[]:=List.length_eq_zero_iff.1 (by simpa using jq);subst GN;refine⟨_,W,none,[],fun ty=>?_,rfl,fun g q=>(by cases q),fun _=>⟨rfl,rfl,rfl⟩,by simp,Frm.refl _ _⟩;have:=run_append_nothing (P:=Tryz.prog) W 106 106 ty 110 i0 Tryz.underlying106 hi none 0 0 (nR _) v d8;exact this
  | some g=>
   have hg:=ha g rfl;refine⟨_,_,some g,junk.drop vs.length,fun ty=>run_append_room_src (P:=Tryz.prog) W 106 106 ty 110 i0 Tryz.underlying106 hi g 0 es.length (es.length+junk.length) v _ _ d8 (by omega)
    (fun k hk=>by rw[aG]at hk;rw[hg.cell,h3,Array.getElem?_eq_getElem (by rw[fV,lP];omega)];rfl) (fun k hk=>hg.frozen _),?_,fun g' q=>?_,fun q=>(by cases q),?_,?_⟩
   ·simp[adr];omega
   ·cases q
    refine⟨?_,.inl rfl⟩;have:=IsC.sets (vs.flatMap aJ) (cs:=(es++junk).flatMap aJ) (es.length*3) hg (by rw[aG,aG,lP];omega);rw[gM,aIG _ _ _ jq]at this;rw[h3,Nat.zero_add];exact this
   ·simp;omega
   ·exact Frm.sets (S:=fun k=>some g=some k) _ rfl _ _
 ·have sn:(Builtin.firstCells i0.size es.length (.slice (adr a) es.length (es.length+junk.length))).run Tryz.prog W.drew=.ok (es.flatMap aJ).toArray W.drew:=by
   cases a with
   | none=>
    obtain⟨rfl,rfl⟩:=hn rfl;exact run_firstCells_none (P:=Tryz.prog) W.drew i0.size 0 0 0
   | some g=>
    have hg:=ha g rfl;exact run_firstCells_some (P:=Tryz.prog) W.drew i0.size es.length ⟨g,0,none⟩ es.length _ (es.flatMap aJ) (by rw[aG,h3]) (by
     have:=Esl.cells (w:=W.drew) (g:=g) (o:=0) (xs:=es++junk) (es:=es) hg.drew (by rw[lP];omega) (by simp)
     rw[Nat.zero_mul]at this;exact this)
  have hr:=fun ty=>run_append_grow_src (P:=Tryz.prog) W 106 106 ty 110 i0 _ Tryz.underlying106 hi hz (adr a) es.length (es.length+junk.length) (es.flatMap aJ) sn v vs.length (vs.flatMap aJ) d8 (by omega) (by omega) (by rw[Aj];exact aLB (by omega) (by omega));have xz:=grownCap_ge W (es.length+vs.length) (es.length+junk.length) 110;have pr:=grownCap_le_maxLen W (es.length+vs.length) (es.length+junk.length) 110 (by simp[maxLen];omega);generalize grownCap W (es.length+vs.length) (es.length+junk.length) 110=gc at *;refine⟨_,_,some W.heap.size,List.replicate (gc -(es.length+vs.length)) e0,hr,?_,fun g q=>?_,fun q=>(by cases q),?_,?_⟩
  ·simp[adr];omega
  ·cases q
   refine⟨?_,.inr (nR _)⟩;have au:(Value.agg #[.string .empty,.string .empty,.int .i64 0]).cells=#[.string .empty,.string .empty,.int .i64 0]:=by kernel_rfl
   have:=IsC.new W.drew ((es.flatMap aJ++vs.flatMap aJ).toArray++Builtin.zeroCells (Value.agg #[.string .empty,.string .empty,.int .i64 0]).cells (gc -(es.length+vs.length))) 110
   have e:bW (es++vs++List.replicate (gc -(es.length+vs.length)) e0)=(es.flatMap aJ++vs.flatMap aJ).toArray++Builtin.zeroCells (Value.agg #[.string .empty,.string .empty,.int .i64 0]).cells (gc -(es.length+vs.length)):=by
    rw[au,aDL];simp[bW]
   rw[e];exact this
  ·simp;omega
  ·exact(Frm.drew _ W).trans (Frm.alloc _ _ _)
