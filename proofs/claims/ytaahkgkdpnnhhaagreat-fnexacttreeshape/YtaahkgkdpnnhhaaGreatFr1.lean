import Derived.RangeFuncNested
import Derived.RangeFuncBound
import Derived.RangeFuncCalls
import Derived.RangeFuncLeaves
import Derived.Shelf.Abstract
import Derived.Shelf.RegionOpen
import Derived.OwnWalkIn
import Derived.TacticsInMore
import Derived.LoopNIn
import Derived.LoopIn
import Derived.Lib.SliceRun
import Derived.Test.YtaahkgkdpnnhhaaGreatInv
set_option maxHeartbeats 9999999
set_option maxRecDepth 99999
set_option linter.all false
namespace Go.Proofs.YtaahkgkdpnnhhaaGreat
open Go.RowKit Go.Shelf
variable{Bs Bt n₀:Nat}
attribute [local go_sem] Oper.semAt_some
abbrev Blk(n:Nat):={x:Nat // 2≤x∧x<n}
def isF(zs ys:List Int)(i:Nat):Bool:=zs.getD i 0 == 0 && ys.getD i 0 == 0
def frs(zs ys:List Int)(n k:Nat):List (Blk n):=((List.range k).filterMap fun i=>if h:2≤i∧i<n then(if isF zs ys i then some ⟨i,h⟩else none)else none)
theorem wN(zs ys:List Int)(n k:Nat)(h:2≤k∧k<n)(hf:isF zs ys k=true):frs zs ys n (k+1)=frs zs ys n k++[⟨k,h⟩]:=by
 simp[frs,List.range_succ,h,hf]
theorem rT(zs ys:List Int)(n k:Nat)(h:¬(2≤k∧k<n∧isF zs ys k=true)):frs zs ys n (k+1)=frs zs ys n k:=by
 simp only[frs,List.range_succ,List.filterMap_append,List.filterMap_cons,List.filterMap_nil];by_cases h1:2≤k∧k<n
 ·have:isF zs ys k≠true:=fun e=>h ⟨h1.1,h1.2,e⟩
  simp[h1,this]
 ·simp[h1]
theorem rU(zs ys:List Int)(n:Nat){j k:Nat}(h:j≤k):frs zs ys n j <+: frs zs ys n k:=by
 induction k with
 | zero=>rw[show j=0 by omega];exact List.prefix_refl _
 | succ k ih=>
  by_cases hj:j=k+1
  ·rw[hj];exact List.prefix_refl _
  ·refine(ih (by omega)).trans ?_
   by_cases h1:2≤k∧k<n∧isF zs ys k=true
   ·rw[wN zs ys n k ⟨h1.1,h1.2.1⟩ h1.2.2];exact List.prefix_append _ _
   ·rw[rT zs ys n k h1];exact List.prefix_refl _
theorem jS(zs ys:List Int)(n k:Nat):(frs zs ys n k).length≤k:=by
 simp only[frs];exact lT (List.length_filterMap_le _ _) (by simp)
def KpF(n₀ Bs Bt:Nat)(W W':World):Prop:=Below n₀ W W'∧W'.heap[Bs]?=W.heap[Bs]?∧W'.heap[Bt]?=W.heap[Bt]?
theorem KpF.refl(n₀ Bs Bt:Nat)(W:World):KpF n₀ Bs Bt W W:=⟨bQ _ _,rfl,rfl⟩
theorem KpF.trans{A B C:World}(h:KpF n₀ Bs Bt A B)(k:KpF n₀ Bs Bt B C):KpF n₀ Bs Bt A C:=⟨h.1.trans k.1,k.2.1.trans h.2.1,k.2.2.trans h.2.2⟩
theorem KpF.put{N:Nat}(h1:n₀≤N)(h2:Bs<N)(h3:Bt<N)(W:World)(l:Nat)(o o':Obj)(hl:N≤l)(ho:W.heap[l]?=some o)(_:o.isCells=false)(_:o.isWalk=false):KpF n₀ Bs Bt W (W.putObj l o'):=by
 have ai:l<W.heap.size:=(Array.getElem?_eq_some_iff.1 ho).1;exact⟨(bQ n₀ W).grown (grownBy_putObj' W l o') (by omega) (fun k e=>by cases e;omega),World.putObj_heap_other (by omega),World.putObj_heap_other (by omega)⟩
theorem aGI(F:Fence)(n:Nat)(hg:F.fn 150)(cy:F.round=none)(hn:1≤n)(l Bs Bt n₀ b off b' off' c c':Nat)(zs ys:List Int)(hl:ys.length=zs.length)(hz:zs.length≤512)(Aw:8≤zs.length)(hb:b<n₀)(xe:b'<n₀)(J Jx:List (Blk zs.length)→World→Prop)
  (hY:∀pre (x:Blk zs.length) W,J pre W→pre.length<zs.length→YieldAt F (n-1) Tryz.prog l #[.int .i64 (x.1:Int)] W fun e W'=>
   (e=.returned (.bool true)∧J (pre++[x]) W'∧KpF n₀ Bs Bt W W')∨(e=.returned (.bool false)∧Jx (pre++[x]) W'))
  (W:World) (g8:W.cell? ⟨Bs,0,none⟩=some (.slice (some ⟨b,off,none⟩) zs.length c)) (Tc:W.cell? ⟨Bt,0,none⟩=some (.slice (some ⟨b',off',none⟩) ys.length c'))
  (hc:∀j,j<zs.length→W.cell? ⟨b,off+j,none⟩=some (.int .i64 (zs.getD j 0))) (bj:∀j,j<ys.length→W.cell? ⟨b',off'+j,none⟩=some (.int .i64 (ys.getD j 0))) (h0:J [] W):
  CallsIn F n Tryz.prog 150 #[.func (.yield l) #[] #[],.pointer (some ⟨Bs,0,none⟩),.pointer (some ⟨Bt,0,none⟩)] W fun e W'=>(∃v,e=.returned v)∧
   ((∃xs,xs=frs zs ys zs.length zs.length∧J xs W')∨(∃pre,(∃k,k≤zs.length∧pre=frs zs ys zs.length k)∧Jx pre W')):=by
 refine callsIn_of_wp Tryz.func150 rfl hg ?_ cy;simp only[Tryz.ntmps150,List.size_toArray,List.length_cons,List.length_nil,Nat.reduceAdd,Nat.reduceSub,Array.replicate_succ,Array.replicate_zero,List.push_toArray,List.append_toArray,List.nil_append,List.cons_append];gi_wp2;gi_loopw [4] (fun i wr=>∃k:Nat,2≤k∧k≤zs.length∧i=.int .i64 k∧J (frs zs ys zs.length k) wr∧KpF n₀ Bs Bt W wr) (fun i _=>zs.length -(intOf i).toNat)
 case atStart=>exact⟨2,nR _,by omega,rfl,h0,KpF.refl _ _ _ _⟩
 case round=>
  obtain⟨k,AM,hk,rfl,Ck,i5⟩:=hrel;have d1:wr.cell? ⟨Bs,0,none⟩=some (.slice (some ⟨b,off,none⟩) zs.length c):=(World.cell?_of_block (a:=⟨Bs,0,none⟩) i5.2.1).trans g8;have d2:wr.cell? ⟨Bt,0,none⟩=some (.slice (some ⟨b',off',none⟩) ys.length c'):=(World.cell?_of_block (a:=⟨Bt,0,none⟩) i5.2.2).trans Tc;by_cases ai:k<zs.length
  ·have d3:wr.cell? ⟨b,off+k,none⟩=some (.int .i64 (zs.getD k 0)):=(i5.1.cell (p:=⟨b,off+k,none⟩) hb).trans (hc k ai)
   have d4:wr.cell? ⟨b',off'+k,none⟩=some (.int .i64 (ys.getD k 0)):=(i5.1.cell (p:=⟨b',off'+k,none⟩) xe).trans (bj k (by omega));have hi:(k:Int) <(zs.length:Int):=by omega
   have am:(k:Int) <(ys.length:Int):=by omega
   have HF:Hid (isF zs ys k=(zs.getD k 0 == 0 && ys.getD k 0 == 0)):=rfl;have ah:=jS zs ys zs.length k;obtain⟨x,HX⟩:∃x,Hid (zs.getD k 0=x):=⟨_,rfl⟩;obtain⟨y,HYY⟩:∃y,Hid (ys.getD k 0=y):=⟨_,rfl⟩;rw[HX.out]at d3 HF;rw[HYY.out]at d4 HF;clear hc bj g8 Tc h0;have HL:Hid (ys.length=zs.length):=hl;clear hl;by_cases hx:x=0
   ·subst hx
    by_cases hy:y=0
    ·subst hy
     have CU:isF zs ys k=true:=by rw[HF.out];rfl
     have zi:Hid (frs zs ys zs.length (k+1)=frs zs ys zs.length k++[⟨k,AM,ai⟩]):=wN zs ys _ k ⟨AM,ai⟩ CU;obtain⟨fn,tmps,assign,body,hy,hR⟩:=hY _ ⟨k,AM,ai⟩ wr Ck (by omega);dsimp only at hy;clear CU hY;gi_wp2;refine hR.mono ?_;rintro e W3 (⟨rfl,sy,Jn⟩ | ⟨rfl,Lw⟩)
     ·rw[←zi.out]at sy
      clear d1 d2 d3 d4 hy hR Ck;gi_wp2;go_roundw
      case rel=>exact⟨k+1,by omega,by omega,by go_num,sy,i5.trans Jn⟩
      case measure=>simp[intOf];omega
     ·rw[←zi.out]at Lw
      clear d1 d2 d3 d4 hy hR Ck;gi_wp2;refine bodyPost_ret (results_none rfl _ _ _) rfl ?_;exact⟨⟨_,rfl⟩,.inr ⟨_,⟨k+1,by omega,rfl⟩,Lw⟩⟩
    ·have pn:(y == 0)=false:=by simpa using hy
     have zi:Hid (frs zs ys zs.length (k+1)=frs zs ys zs.length k):=rT zs ys _ k fun e=>by have:=e.2.2;rw[HF.out,pn]at this;simp at this
     clear hy hY;gi_wp2;refine⟨fun _ h=>(by cases h),?_⟩;gi_wp2;go_roundw
     case rel=>exact⟨k+1,by omega,by omega,by go_num,by rw[zi.out];exact Ck,i5⟩
     case measure=>simp[intOf];omega
   ·have bq:(x == 0)=false:=by simpa using hx
    have zi:Hid (frs zs ys zs.length (k+1)=frs zs ys zs.length k):=rT zs ys _ k fun e=>by have:=e.2.2;rw[HF.out,bq]at this;simp at this
    clear hx hY;gi_wp2;refine⟨fun _ h=>(by cases h),?_⟩;gi_wp2;go_roundw
    case rel=>exact⟨k+1,by omega,by omega,by go_num,by rw[zi.out];exact Ck,i5⟩
    case measure=>simp[intOf];omega
  ·obtain rfl:k=zs.length:=by omega
   gi_wp2
   go_end0
   exact⟨⟨_,rfl⟩,.inl ⟨_,rfl,Ck⟩⟩
attribute [local go_sem] Oper.semAt_some
theorem jB(F:Fence)(n:Nat)(hg:F.fn 131)(cy:F.round=none)(x y:Value)(w:World)(hx:∃a l c,x=.slice a l c)(hy:∃a l c,y=.slice a l c):
  CallsIn F n Tryz.prog 131 #[x,y] w fun e w'=>e=.returned (.func (.func 150) #[] #[.pointer (some ⟨w.heap.size,0,none⟩),.pointer (some ⟨w.heap.size+1,0,none⟩)])∧w'=(w.alloc (.cells #[x] 24)).alloc (.cells #[y] 24):=by
 obtain⟨a,l,c,rfl⟩:=hx;obtain⟨a',l',c',rfl⟩:=hy;refine callsIn_of_wp Tryz.func131 rfl hg ?_ cy;simp only[Tryz.ntmps131,List.size_toArray,List.length_cons,List.length_nil,Nat.reduceAdd,Nat.reduceSub,Array.replicate_succ,Array.replicate_zero,List.push_toArray,List.append_toArray,List.nil_append,List.cons_append];gi_wp2;go_ret;exact⟨rfl,rfl⟩
theorem mJ(F:Fence)(n:Nat)(hg:F.fn 150)(cy:F.round=none)(hn:1≤n)(Bs Bt n₀:Nat)(a a':Option Addr)(c c':Nat)(zs ys:List Int)(hl:ys.length=zs.length)(hz:zs.length≤512)(Aw:8≤zs.length)(w:World)(VD:Bs<w.heap.size)(VF:Bt<w.heap.size)(_hn₀:n₀≤w.heap.size)
  (hc:w.cell? ⟨Bs,0,none⟩=some (.slice a zs.length c)) (bj:w.cell? ⟨Bt,0,none⟩=some (.slice a' ys.length c')) (w0:World) (h0:Nts w0 (.slice a zs.length c) zs) (Sj:Nts w0 (.slice a' ys.length c') ys) (m0:w0.heap.size≤n₀) (ik:Bl w0 w):
  SeqStopsK F n Tryz.prog 150 #[.pointer (some ⟨Bs,0,none⟩),.pointer (some ⟨Bt,0,none⟩)] (fun x:Blk zs.length=>#[Value.int .i64 (x.1:Int)]) (KpF n₀ Bs Bt) (fun xs=>xs=frs zs ys zs.length zs.length) (fun pre=>∃k,k≤zs.length∧pre=frs zs ys zs.length k) zs.length w:=fun l J Jx W hW _ _ hY Kd=>by
 obtain⟨_,_,he,hs⟩:=h0.shape;simp only[Value.slice.injEq,true_and]at he;obtain⟨rfl,rfl⟩:=he;obtain⟨b,off,rfl,aa⟩:=hs (by omega);obtain⟨_,_,he,K8⟩:=Sj.shape;simp only[Value.slice.injEq,true_and]at he;obtain⟨rfl,rfl⟩:=he;obtain⟨b',off',rfl,eo⟩:=K8 (by omega);have hb:b<w0.heap.size:=World.block_lt_of_cell? _ _ (aa 0 (by omega));have xe:b'<w0.heap.size:=World.block_lt_of_cell? _ _ (eo 0 (by omega));have NX:=ik.trans (hW.mono ik.size);exact aGI F n hg cy hn l Bs Bt n₀ b off b' off' c c' zs ys hl hz Aw (by omega) (by omega) J Jx hY W ((hW.cell (p:=⟨Bs,0,none⟩) VD).trans hc) ((hW.cell (p:=⟨Bt,0,none⟩) VF).trans bj)
  (fun j hj=>(NX.cell (p:=⟨b,off+j,none⟩) hb).trans (aa j hj)) (fun j hj=>(NX.cell (p:=⟨b',off'+j,none⟩) xe).trans (eo j hj)) Kd
def low(zs ys:List Int):Int:=match frs zs ys zs.length zs.length with
 | []=>0
 | x :: _=>(x.1:Int)
theorem uI(F:Fence)(n:Nat)(h1:F.fn 151)(h2:F.fn 131)(h3:F.fn 150)(cy:F.round=none)(hn:3≤n)(a a':Option Addr)(c c':Nat)(zs ys:List Int)(hl:ys.length=zs.length)(hz:zs.length≤512)(Aw:8≤zs.length)(w:World)(hv:Nts w (.slice a zs.length c) zs)(nw:Nts w (.slice a' ys.length c') ys):
  CallsIn F n Tryz.prog 151 #[.slice a zs.length c,.slice a' ys.length c'] w fun e W'=>e=.returned (.int .i64 (low zs ys))∧Bl w W':=by
 have nm:1≤n:=by omega
 have HL:Hid (ys.length=zs.length):=hl;clear hl;refine callsIn_of_wp_marks Tryz.func151 rfl h1 ?_ cy;simp only[Tryz.ntmps151,List.size_toArray,List.length_cons,List.length_nil,Nat.reduceAdd,Nat.reduceSub,Array.replicate_succ,Array.replicate_zero,List.push_toArray,List.append_toArray,List.nil_append,List.cons_append];gi_wp2_with (gi_at_call 131;refine(jB F (n-1) h2 cy _ _ _ ⟨_,_,_,rfl⟩ ⟨_,_,_,rfl⟩).mono ?_;rintro e w' ⟨rfl,rfl⟩);have bR:=Boxed.new w 2 (.int .i64 0);have bS:=Boxed.new (w.alloc (.cells #[.int .i64 0] 2)) 24 (.slice a zs.length c);have bT:=Boxed.new ((w.alloc (.cells #[.int .i64 0] 2)).alloc (.cells #[.slice a zs.length c] 24)) 24 (.slice a' ys.length c');simp only[World.size_alloc]at bS bT;have c9:Bl w (((w.alloc (.cells #[.int .i64 0] 2)).alloc (.cells #[.slice a zs.length c] 24)).alloc (.cells #[.slice a' ys.length c'] 24)):=(((bQ _ w).alloc (nR _) _).alloc (by simp) _).alloc (by simp;omega) _;refine wpIn_rangeFunc_ownF cy nm (gf:=150) (lb:=#[.pointer (some ⟨w.heap.size+1,0,none⟩),.pointer (some ⟨w.heap.size+1+1,0,none⟩)]) rfl h3 (enters_of Tryz.func150 (by kernel_rfl) rfl)
  (mJ F (n-1) h3 cy (by omega) (w.heap.size+1) (w.heap.size+1+1) w.heap.size a a' c c' zs ys HL.out hz Aw _ (by simp) (by simp) (by simp;omega) ((bS.alloc _).cell) bT.cell w hv nw (by omega) c9) KpF.trans (KpF.put (by simp;omega) (by simp) (by simp)) (bQ _ _) (fun _=>rfl)
  (fun pre W=>(pre=[]∧W.cell? ⟨w.heap.size,0,none⟩=some (.int .i64 0)∧W.frozen? ⟨w.heap.size,0,none⟩=false)∧Bl w W)
  (fun k pre W=>(k=.ret∧∃x,pre=[x]∧W.cell? ⟨w.heap.size,0,none⟩=some (.int .i64 (x.1:Int)))∧Bl w W)
  (OwnFrom.and (Own.from (fun s A B row hs hg hr=>⟨hs.1,cell_kept hs.2.1 hg hr,(frozen_kept hs.2.1 hg hr).trans hs.2.2⟩) _) (ownFrom_below (nR _) (by simp;omega)))
  (fun k=>OwnFrom.and (Own.from (fun s A B row hs hg hr=>by obtain⟨e1,x,e2,e3⟩:=hs;exact⟨e1,x,e2,cell_kept e3 hg hr⟩) _) (ownFrom_below (nR _) (by simp;omega)))
  ⟨⟨rfl,((bR.alloc _).alloc _).cell,((bR.alloc _).alloc _).frozen⟩,c9⟩
  (fun x=>{tmps:=#[.slice a zs.length c,.slice a' ys.length c',undef,undef,.pointer (some ⟨w.heap.size,0,none⟩),.int .i64 (x.1:Int),.slice a zs.length c,.slice a' ys.length c',.func (.func 150) #[] #[.pointer (some ⟨w.heap.size+1,0,none⟩),.pointer (some ⟨w.heap.size+1+1,0,none⟩)],.int .i64 (x.1:Int),undef],defers:=[]}) ?assign ?body ?done ?stop
 case assign=>
  intro l x W K hK;gi_wp2;exact hK
 case body=>
  rintro l pre x W ⟨⟨rfl,hc,hf⟩,hB⟩ _;gi_wp2;exact⟨KeepsOthers.setCell _ _ _,⟨rfl,x,rfl,World.cell?_setCell_same' _ _ _ (by rw[hc];rfl)⟩,hB.setCell (p:=⟨w.heap.size,0,none⟩) (nR _) _⟩
 case done=>
  rintro D xs W hD rfl ⟨⟨AU,hc,hf⟩,hB⟩ hK;gi_wp2;have Ph:=(KeepsOthers.setCell W ⟨w.heap.size,0,none⟩ (.int .i64 0)).same D _ hK rfl;refine⟨by simp,.inl ⟨_,_,rfl,run_takeDeferred Ph,?_⟩⟩;have EI:=cell_kept (World.cell?_setCell_same' W ⟨w.heap.size,0,none⟩ (.int .i64 0) (by rw[hc];rfl)) (grownBy_putObj' _ D (.deferred none)) (fun r e=>by cases e;exact⟨_,Ph,rfl⟩);refine⟨.int .i64 0,?_,by unfold low;rw[AU],(hB.setCell (p:=⟨w.heap.size,0,none⟩) (nR _) _).trans (belowK_b (w:=w) (nR _) _ D _ _ (by simp at hD;omega) Ph rfl rfl)⟩;simp[results,Tryz.f151,go_sem,EI]
 case stop=>
  rintro D k pre W hD ⟨q,hq,lg⟩ ⟨⟨rfl,x,rfl,hc⟩,hB⟩ hK;gi_wp2;refine⟨by simp,.inl ⟨_,_,rfl,run_takeDeferred hK,?_⟩⟩;have EI:=cell_kept hc (grownBy_putObj' _ D (.deferred none)) (fun r e=>by cases e;exact⟨_,hK,rfl⟩);have AR:low zs ys=(x.1:Int):=by
   obtain⟨t,ht⟩:=rU zs ys zs.length hq;unfold low;rw[←ht,←lg];rfl
  refine⟨.int .i64 (x.1:Int),?_,by rw[AR],hB.trans (belowK_b (w:=w) (nR _) W D _ _ (by simp at hD;omega) hK rfl rfl)⟩;simp[results,Tryz.f151,go_sem,EI]
theorem sI(a a':Option Addr)(c c':Nat)(zs ys:List Int)(hl:ys.length=zs.length)(hz:zs.length≤512)(Aw:8≤zs.length)(w:World)(hv:Nts w (.slice a zs.length c) zs)(nw:Nts w (.slice a' ys.length c') ys):
  Calls Tryz.prog 151 #[.slice a zs.length c,.slice a' ys.length c'] w fun e W'=>e=.returned (.int .i64 (low zs ys))∧Bl w W':=
 (callsIn_wide (n:=3)).1 (uI Fence.wide 3 trivial trivial trivial rfl (nR _) a a' c c' zs ys hl hz Aw w hv nw)
end Go.Proofs.YtaahkgkdpnnhhaaGreat
namespace Go.Proofs.YtaahkgkdpnnhhaaGreat
open Go.RowKit
def frI(zs ys:List Int)(n k:Nat):List Int:=(frs zs ys n k).map fun x=>(x.1:Int)
theorem rS(zs ys:List Int)(n k:Nat):(frI zs ys n k).length≤k:=by
 simp only[frI,List.length_map];exact jS zs ys n k
theorem aDR(zs ys:List Int)(n k i:Nat)(hn:n≤1048576):-9223372036854775808≤(frI zs ys n k).getD i 0∧(frI zs ys n k).getD i 0≤9223372036854775807:=by
 by_cases hi:i <(frs zs ys n k).length
 ·have:=(frs zs ys n k)[i].2
  simp only[frI,gD,List.getElem?_map,gE hi,Option.map_some,Option.getD_some];omega
 ·simp[frI,List.getElem?_eq_none (Nat.le_of_not_lt hi)]
theorem sD(a a':Option Addr)(c c':Nat)(zs ys:List Int)(w:World)(hv:Nts w (.slice a zs.length c) zs)(nw:Nts w (.slice a' ys.length c') ys)(hl:ys.length=zs.length)(hz:zs.length≤512)(Aw:8≤zs.length):
  Calls Tryz.prog 84 #[.slice a zs.length c,.slice a' ys.length c'] w fun e w'=>∃u,e=.returned u∧dH w.heap.size w' u (frI zs ys zs.length zs.length)∧Bl w w':=by
 obtain⟨_,_,he,hs⟩:=hv.shape;simp only[Value.slice.injEq,true_and]at he;obtain⟨rfl,rfl⟩:=he;obtain⟨b,off,rfl,aa⟩:=hs (by omega);obtain⟨_,_,he,K8⟩:=nw.shape;simp only[Value.slice.injEq,true_and]at he;obtain⟨rfl,rfl⟩:=he;obtain⟨b',off',rfl,eo⟩:=K8 (by omega);have lu:b<w.heap.size:=World.block_lt_of_cell? _ _ (aa 0 (by omega));have QL:b'<w.heap.size:=World.block_lt_of_cell? _ _ (eo 0 (by omega));have HL:Hid (ys.length=zs.length):=hl;clear hl hs K8 hv nw;go_enter Tryz.func84,Tryz.ntmps84;go_wp2;go_loopw [5,6] (fun u i wr=>∃k:Nat,2≤k∧k≤zs.length∧i=.int .i64 k∧dH w.heap.size wr u (frI zs ys zs.length k)∧Bl w wr) (fun _ i _=>zs.length -(intOf i).toNat)
 case atStart=>exact⟨2,nR _,by omega,rfl,dH.lit _ _ (nR _) _ rfl,iJ _ _⟩
 case round=>
  obtain⟨k,AM,hk,rfl,ap,hb⟩:=hrel;obtain⟨ua,uc,Ei⟩:=ap.shape;subst Ei;have bd:=hb.size;have tj:(frI zs ys zs.length k).length<8589934592:=by have:=rS zs ys zs.length k;omega
  by_cases ai:k<zs.length
  ·have g1:wr.cell? ⟨b,off+k,none⟩=some (.int .i64 (zs.getD k 0)):=(hb.cell (p:=⟨b,off+k,none⟩) lu).trans (aa k ai)
   have g2:wr.cell? ⟨b',off'+k,none⟩=some (.int .i64 (ys.getD k 0)):=(hb.cell (p:=⟨b',off'+k,none⟩) QL).trans (eo k (by rw[HL.out];exact ai));have hi:(k:Int) <(zs.length:Int):=by omega
   have am:(k:Int) <(ys.length:Int):=by rw[HL.out];omega
   have HF:Hid (isF zs ys k=(zs.getD k 0 == 0 && ys.getD k 0 == 0)):=rfl;generalize zs.getD k 0=x at *;generalize ys.getD k 0=y at *;clear aa eo;by_cases hx:x=0
   ·subst hx
    by_cases hy:y=0
    ·subst hy
     have zi:Hid (frI zs ys zs.length (k+1)=frI zs ys zs.length k++[(k:Int)]):=by
      unfold frI;rw[wN zs ys _ k ⟨AM,ai⟩ (by rw[HF.out];rfl)];simp[Hid]
     go_wp2_with (first | (at_builtin;refine kI rfl _ _ rfl _ ap rfl rfl tj bd ?_;intro v' w1 ee di fl Qs) | go_in)
     rw[←zi.out]at ee;go_roundw
     case rel=>exact⟨k+1,by omega,by omega,by go_num,ee,hb.trans di⟩
     case measure=>simp[intOf];omega
    ·have pn:(y == 0)=false:=by simpa using hy
     have zi:Hid (frI zs ys zs.length (k+1)=frI zs ys zs.length k):=by
      unfold frI;rw[rT zs ys _ k fun e=>by have:=e.2.2;rw[HF.out,pn]at this;simp at this];rfl
     clear hy;go_wp2;go_roundw
     case rel=>exact⟨k+1,by omega,by omega,by go_num,by rw[zi.out];exact ap,hb⟩
     case measure=>simp[intOf];omega
   ·have bq:(x == 0)=false:=by simpa using hx
    have zi:Hid (frI zs ys zs.length (k+1)=frI zs ys zs.length k):=by
     unfold frI;rw[rT zs ys _ k fun e=>by have:=e.2.2;rw[HF.out,bq]at this;simp at this];rfl
    clear hx;go_wp2;go_roundw
    case rel=>exact⟨k+1,by omega,by omega,by go_num,by rw[zi.out];exact ap,hb⟩
    case measure=>simp[intOf];omega
  ·obtain rfl:k=zs.length:=by omega
   clear aa eo;go_wp2;go_ret;exact⟨_,rfl,ap,hb⟩
section
variable {P : Program} {ops : Array Oper} {Q : Exit → Act → World → Prop} {md : Region.Mode} {S : World → Prop} {L : Nat}
def dep(md:Region.Mode)(ops:Array Oper):Nat→Nat→Nat→Bool
 | 0,_,_=>false
 | f+1,L,i=>((ops[L]?).map fun o=>o.after.toList.any fun e=>Region.binds md e && (e.on == i || dep md ops f e.on i)).getD false
def kK(md:Region.Mode)(ops:Array Oper)(listed:Array Bool):Prop:=
 ∀j o,ops[j]?=some o→listed.getD j true=true→∀e∈o.after,Region.binds md e=true→listed.getD e.on true=true
def wF(md:Region.Mode)(ops:Array Oper)(listed:Array Bool):Bool:=
 (List.range ops.size).all fun j=>!(listed.getD j true) || ((ops[j]?).map fun o=>o.after.toList.all fun e=>!(Region.binds md e) || listed.getD e.on true).getD true
theorem mW{listed:Array Bool}(h:wF md ops listed=true):kK md ops listed:=fun j o ho hj e he hb=>by
 have h1:=List.all_eq_true.1 h j (List.mem_range.2 (Array.getElem?_eq_some_iff.1 ho).1);rw[ho,hj]at h1;simp only[Bool.not_true,Bool.false_or,Option.map_some,Option.getD_some]at h1;have h2:=List.all_eq_true.1 h1 e (by simpa using he);rw[hb]at h2;simpa using h2
theorem aCM{listed:Array Bool}{j k:Nat}(h:listed.getD k true=true):(listed.setIfInBounds j true).getD k true=true:=by
 simp only[Array.getD_eq_getD_getElem?,Array.getElem?_setIfInBounds]at *;split
 ·split<;>simp
 ·exact h
theorem pQ{listed:Array Bool}{j:Nat}(h:j∈Region.ready md ops listed):∃o,ops[j]?=some o∧∀e∈o.after,Region.binds md e=true→listed.getD e.on true=true:=by
 obtain⟨_,o,ho,h2⟩:=mem_ready.1 h;refine⟨o,ho,fun e he hb=>?_⟩;have:=h2 e he hb;simp only[Array.getD_eq_getD_getElem?]at this ⊢;cases hx:listed[e.on]? with
 | none=>rfl
 | some b=>rw[hx]at this;simpa using this
theorem kK.step{listed:Array Bool}{j:Nat}(h:kK md ops listed)(hj:j∈Region.ready md ops listed):kK md ops (listed.setIfInBounds j true):=fun k o ho hk e he hb=>by
 by_cases ek:k=j
 ·subst ek
  obtain⟨o',GC,h2⟩:=pQ hj;rw[ho]at GC;cases GC;exact aCM (h2 e he hb)
 ·refine aCM (h k o ho ?_ e he hb)
  rwa [getD_set_ne true (Ne.symm ek)]at hk
theorem rI{listed:Array Bool}(h:kK md ops listed){i:Nat}:∀(f L:Nat) (o:Oper),ops[L]?=some o→(∀e∈o.after,Region.binds md e=true→listed.getD e.on true=true)→dep md ops f L i=true→listed.getD i true=true
 | 0,_,_,_,_,hd=>by simp[dep]at hd
 | f+1,L,o,ho,ha,hd=>by
  simp only[dep,ho,Option.map_some,Option.getD_some,List.any_eq_true,Bool.and_eq_true,Bool.or_eq_true,beq_iff_eq]at hd;obtain⟨e,he,hb,hd⟩:=hd;have h1:=ha e (by simpa using he) hb;rcases hd with hd | hd
  ·rw[←hd];exact h1
  ·cases GC:ops[e.on]? with
   | none=>
    cases f with
    | zero=>simp[dep]at hd
    | succ f=>simp[dep,GC]at hd
   | some o'=>exact rI h f e.on o' GC (h e.on o' GC h1) hd
theorem uV{listed:Array Bool}(h:kK md ops listed){f i:Nat}(hd:dep md ops f L i=true)(hi:i∈Region.ready md ops listed)(hL:L∈Region.ready md ops listed):i=L:=by
 obtain⟨o,ho,h2⟩:=pQ hL;have h3:=rI h f L o ho h2 hd;have h4:=(mem_ready.1 hi).1;rw[h3]at h4;cases h4
theorem zZ{i fd:Nat}(fg:dep md ops fd L i=true){oi:Oper}{v:Value}(hi:ops[i]?=some oi)(uo:∀(j:Nat) (o:Oper) cs b,ops[j]?=some o→o.op≠.select cs b)
  (hQ:∀c a w,Q (.panic c) (a.put oi.dst v) w→Q (.panic c) a w) (fuel:Nat):
  ∀(listed:Array Bool) (a:Act) (w:World),kK md ops listed→
   (∀j oj,ops[j]?=some oj→j≠i→listed.getD j true=false→(∀e∈oj.after,Region.binds md e=true→e.on≠i)→oi.apart ops oj=true)→
   i∈Region.ready md ops listed→YieldsIf P ops S oi v a→S w→
   dZ P md ops Q S L fuel (listed.setIfInBounds i true) (a.put oi.dst v) w→dZ P md ops Q S L (fuel+1) listed a w:=by
 induction fuel with
 | zero=>
  intro listed a w _ _ hr hy hS H;refine⟨fun h=>by simp[h]at hr,fun j hj=>?_⟩;by_cases dq:j=i
  ·subst dq
   exact hy.wpOp hi hS ⟨fun _=>hS,H⟩
  ·have hm:=ready_mono hj dq
   simp[H.1]at hm
 | succ fuel ih=>
  intro listed a w au mu hr hy hS H;refine⟨fun h=>by simp[h]at hr,fun j hj=>?_⟩;by_cases dq:j=i
  ·subst dq
   exact hy.wpOp hi hS ⟨fun _=>hS,H⟩
  ·have Ml:j≠L:=fun e=>dq (e.trans (uV au fg hr (e▸hj)).symm)
   obtain⟨uh,oj,AW,ay⟩:=mem_ready.1 hj;have Bm:∀e∈oj.after,Region.binds md e=true→e.on≠i:=fun e he hb GD=>by
    have h1:=ay e he hb;have h0:=(mem_ready.1 hr).1;rw[GD]at h1;simp only[Array.getD_eq_getD_getElem?]at h0 h1;cases hx:listed[i]? with
    | none=>simp[hx]at h0
    | some b=>simp[hx]at h0 h1;rw[h0]at h1;cases h1
   have h2:=wpOp_putIf AW (mu j oj AW dq uh Bm) (fun cs b=>uo i oi cs b hi) (fun cs b=>uo j oj cs b AW) hQ hy (H.2 j (ready_mono hj dq));refine wpOp_mono (fun a' w' h3=>?_) h2;obtain⟨pn,BP,hE⟩:=h3;refine⟨BP,ih (listed.setIfInBounds j true) a' w' (au.step hj) (fun k ok hk lm GP kv=>mu k ok hk lm ?_ kv) (ready_mono hr (Ne.symm dq)) pn (BP Ml) ?_⟩
   ·by_cases hjk:j=k
    ·exact hjk▸uh
    ·rwa [getD_set_ne true hjk]at GP
   ·rw[Array.setIfInBounds_comm _ _ dq]
    exact hE
theorem aU{i:Nat}{oi:Oper}(t:Nat)(v:Value){fuel:Nat}{listed:Array Bool}{a:Act}{w:World}(fg:dep md ops ops.size L i=true)(pp:wF md ops listed=true)(hi:ops[i]?=some oi)
  (hs:Region.noSelect ops=true) (hf:Region.free md ops listed i=true) (hr:(Region.ready md ops listed).contains i=true)
  (hQ:∀c a w,Q (.panic c) (a.put oi.dst v) w→Q (.panic c) a w) (hg:oi.guard=none) (ht:oi.dst=some t) (hS:S w) (hy:∀w,S w→(execOp a.eval oi).run P w=.ok (.value v) w)
  (h:dZ P md ops Q S L fuel (listed.setIfInBounds i true) (a.put (some t) v) w):dZ P md ops Q S L (fuel+1) listed a w:=
 zZ fg hi (Region.noSelect_spec hs) hQ fuel listed a w (mW pp) (Region.free_spec hi hf) (by simpa using hr) (.inl ⟨by simp[Region.wanted,hg],hy⟩) hS (by rw[ht];exact h)
end
end Go.Proofs.YtaahkgkdpnnhhaaGreat
namespace Go.Proofs.YtaahkgkdpnnhhaaGreat
open Go.RowKit
variable{a:Act}{ops:Array Oper}{Q:Exit→Act→World→Prop}{ys zs:List Int}{rest:List Oper}{j n:Nat}{o:Oper}{w:World}
theorem aJK:(Tryz.prog.info? 165).map (fun i=>(i.zero,i.size,i.bytes))=some (some (.agg #[.int .i64 0,.int .i64 0,.int .i64 0]),3,24):=by kernel_rfl
theorem dU(ie:o.guard=none)(s x:Operand)
  (ho:o.op=.call {callee:=.builtin .append,args:=#[s,x],argTypes:=#[95,95]})
  {base:Nat} {w0:World} {v:Value} {rs:List (Int×Int×Int)} (p q r:Int) (ap:fB base w0 v rs) (hs:a.eval s=v) (hx:a.eval x=.slice (some ⟨w0.heap.size,0,none⟩) 1 1)
  (ah:rs.length<1048576) (hb:base≤w0.heap.size)
  (h:∀v' w',fB base w' v' (rs++[(p,q,r)])→Below base w0 w'→w0.heap.size≤w'.heap.size→wpList Tryz.prog ops Q rest (a.put o.dst v') w'):
  wpList Tryz.prog ops Q (o :: rest) a (w0.alloc (.cells #[.int .i64 p,.int .i64 q,.int .i64 r] 165)):=by
 obtain⟨i0,hi,GU⟩:=Option.map_eq_some_iff.1 aJK;simp only[Prod.mk.injEq]at GU;obtain⟨jl,fz,Ae⟩:=GU;refine wpList_append_own _ ie s x 95 ho base 165 i0 _ 3 24 Tryz.underlying95 hi jl fz Ae rfl (by decide) v _ _ hs (World.ownsRow.alloc ap _) ⟨w0.heap.size,0,none⟩ 1 1 [.int .i64 p,.int .i64 q,.int .i64 r] hx rfl ?_ ?_ ?_ ?_ ?_ ?_
 ·intro j u hj
  match j,hj with
  | 0,hj=>simp at hj;subst hj;simp[Addr.add,World.cell?_alloc_at]
  | 1,hj=>simp at hj;subst hj;simp[Addr.add,World.cell?_alloc_at]
  | 2,hj=>simp at hj;subst hj;simp[Addr.add,World.cell?_alloc_at]
 ·intro u hu;simp at hu;rcases hu with rfl | rfl | rfl<;>rfl
 ·unfold maxLen;omega
 ·omega
 ·simp;omega
 ·intro v' w' h1 h2 _
  have ao:Below base w0 w':=((bQ base w0).alloc hb _).grown h2 (by simp;omega) (fun k hk=>(ap.lt k hk).1);refine h v' w' ?_ ao (by have:=h2.size;simp at this;omega);unfold fB;rw[jR];simpa [eT] using h1
theorem fB.bump{base:Nat}{a:Option Addr}{cap:Nat}{pre:List (Int×Int×Int)}{x y z:Int}(h:fB base w (.slice a (pre.length+1) cap) (pre++[(x,y,z)])):
  ∃g,a=some ⟨g,0,none⟩∧base≤g∧g<w.heap.size∧w.cell? ⟨g,pre.length*3+1,none⟩=some (.int .i64 y)∧w.frozen? ⟨g,pre.length*3+1,none⟩=false∧
   ∀u,fB base (w.setCell ⟨g,pre.length*3+1,none⟩ (.int .i64 u)) (.slice a (pre.length+1) cap) (pre++[(x,u,z)])∧Below base w (w.setCell ⟨g,pre.length*3+1,none⟩ (.int .i64 u)):=by
 have hl:(pre++[(x,y,z)]).length=pre.length+1:=by simp
 have h':w.ownsRow base 165 3 (.slice a (pre.length+1) cap) (pre.length+1) (eT (pre++[(x,y,z)])):=by rw[←hl];rw[←hl]at h;exact h
 have ai:=h'.lt;rcases h'.2 with⟨_,e⟩ | ⟨g,cap',cur,hv,e1,e2,e3⟩
 ·omega
 ·simp only[Value.slice.injEq,true_and]at hv
  obtain⟨rfl,rfl⟩:=hv;have bx:=uX (pre++[(x,y,z)]) pre.length (by simp);refine⟨g,rfl,e1,(ai g rfl).2,?_,h'.frozenAt _,fun u=>?_⟩
  ·rw[h'.cellAt _ (by omega),bx.2.1];simp
  ·obtain⟨s1,s2⟩:=h'.stored (pre.length*3+1) (.int .i64 u)
   refine⟨?_,(bQ base w).setCell (p:=⟨g,pre.length*3+1,none⟩) e1 _⟩;have he:(eT (pre++[(x,y,z)])).set (pre.length*3+1) (.int .i64 u)=eT (pre++[(x,u,z)]):=by
    rw[jR,jR,List.set_append_right _ _ (by rw[nD];omega),nD,show pre.length*3+1-pre.length*3=1 by omega];rfl
   rw[he]at s1;unfold fB;rw[show(pre++[(x,u,z)]).length=pre.length+1 by simp];exact s1
theorem belowA'(w:World)(o:Obj):Bl w (w.alloc o):=(bQ _ _).alloc (nR _) _
def bfr(zs:List Int)(k:Nat):Int:=if k=0 then 0 else zs.getD (k-1) 0
theorem xW(zs:List Int)(k:Nat):bfr zs (k+1)=zs.getD k 0:=by simp[bfr]
theorem rns_more'(zs:List Int)(k:Nat)(h:zs.getD k 0≠0)(he:zs.getD k 0=bfr zs k):
  ∃(pre:List (Int×Int×Int)) (a b c:Int),rns zs k=pre++[(a,b,c)]∧rns zs (k+1)=pre++[(a,b+1,c)]∧0≤b∧b≤k:=by
 match k with
 | 0=>exact absurd he h
 | k+1=>
  rw[xW]at he;obtain⟨pre,a,b,c,h1,h2,h3,h4⟩:=aHL zs k h he.symm;exact⟨pre,a,b,c,h1,h2,h3,by omega⟩
theorem aBH(v:Value)(zs:List Int)(w:World)(hv:Nts w v zs)(hl:zs.length≤512):
  Calls Tryz.prog 155 #[v] w fun e w'=>∃u,e=.returned u∧fB w.heap.size w' u (rns zs zs.length)∧Bl w w':=by
 obtain⟨a,cap,rfl,hc⟩:=hv.shape;go_enter Tryz.func155,Tryz.ntmps155;go_wp2;go_loopw [3,4,9] (fun u bf i wr=>∃k:Nat,k≤zs.length∧i=.int .i64 k∧bf=.int .i64 (bfr zs k)∧fB w.heap.size wr u (rns zs k)∧Bl w wr) (fun _ _ i _=>zs.length -(intOf i).toNat)
 case atStart=>exact⟨0,Nat.zero_le _,rfl,rfl,fB.start _ _,bQ _ _⟩
 case round=>
  obtain⟨k,hk,rfl,rfl,hR,hb⟩:=hrel;have qv:=tD zs k;obtain⟨ua,uc,Ei⟩:=hR.shape;subst Ei;have bd:=hb.size;by_cases ai:k<zs.length
  ·obtain⟨b,off,rfl,aa⟩:=hc (by omega)
   have lu:b<w.heap.size:=World.block_lt_of_cell? _ _ (aa 0 (by omega));have g1:wr.cell? ⟨b,off+k,none⟩=some (.int .i64 (zs.getD k 0)):=(hb.cell (p:=⟨b,off+k,none⟩) lu).trans (aa k ai);have HB:Hid (bfr zs (k+1)=zs.getD k 0):=xW zs k;clear hc aa hv;by_cases h0:zs.getD k 0=0
   ·have HR:Hid (rns zs (k+1)=rns zs k):=aHM zs k h0
    rw[h0]at g1 HB;clear h0;go_wp2;go_roundw
    case rel=>exact⟨k+1,by omega,by go_num,by rw[HB.out],by rw[HR.out];exact hR,hb⟩
    case measure=>simp[intOf];omega
   ·have Mw:(zs.getD k 0 == 0)=false:=by simpa using h0
    by_cases he:zs.getD k 0=bfr zs k
    ·obtain⟨pre,x,y,z,e1,e2,R5,R6⟩:=rns_more' zs k h0 he
     have Ep:Hid (rns zs (k+1)=pre++[(x,y+1,z)]):=e2;have Mq:(rns zs k).length=pre.length+1:=by rw[e1];simp
     rw[Mq]at hR qv;rw[Mq];rw[e1]at hR;rw[←he];obtain⟨g,rfl,g9,mj,c1,c2,Gp⟩:=hR.bump;have HU:Hid _:=Gp (y+1);have Qd:(zs.getD k 0 == zs.getD k 0)=true:=by simp
     have qi:(pre.length:Int) <((pre.length+1:Nat):Int):=by omega
     generalize zs.getD k 0=zk at *;clear hR Gp he h0 e1 e2 Mq;go_wp2;go_roundw
     case rel=>exact⟨k+1,by omega,by go_num,by rw[HB.out],by rw[Ep.out];exact HU.out.1,hb.trans HU.out.2⟩
     case measure=>simp[intOf];omega
    ·have av:(zs.getD k 0 == bfr zs k)=false:=by simpa using he
     have Ep:Hid (rns zs (k+1)=rns zs k++[((k:Int),1,zs.getD k 0)]):=aJY zs k h0 (by
      unfold bfr at he;by_cases gi:k=0
      ·exact .inl gi
      ·rw[if_neg gi]at he;exact .inr (Ne.symm he))
     have yg:(rns zs k).length<1048576:=by omega
     generalize zs.getD k 0=zk at *;generalize bfr zs k=bk at *;clear h0 he;go_wp2_with (first | (at_builtin;refine dU rfl _ _ rfl _ _ _ hR rfl rfl yg bd ?_;intro v' w1 it ao io) | go_in);rw[←Ep.out]at it;go_roundw
     case rel=>exact⟨k+1,by omega,by go_num,by rw[HB.out],it,hb.trans ao⟩
     case measure=>simp[intOf];omega
  ·have RE:k=zs.length:=by omega
   subst RE;clear hc hv;go_wp2;go_ret;exact⟨_,rfl,hR,hb⟩
theorem aKQ{i:Nat}(h:¬(zs.getD i 0≠0∧(i=0∨zs.getD (i-1) 0≠zs.getD i 0))):st zs i=false:=by
 rw[←Bool.not_eq_true,kC];exact h
theorem aAX(v:Value)(zs:List Int)(w:World)(hv:Nts w v zs)(hl:zs.length≤512):
  Calls Tryz.prog 85 #[v] w fun e w'=>∃u,e=.returned u∧fB w.heap.size w' u (rns zs zs.length)∧Bl w w':=by
 obtain⟨a,cap,rfl,hc⟩:=hv.shape;go_enter Tryz.func85,Tryz.ntmps85;go_wp2;go_loopw [3,4] (fun u i wr=>∃k:Nat,k≤zs.length∧i=.int .i64 k∧fB w.heap.size wr u (srn zs zs.length k)∧Bl w wr) (fun _ i _=>zs.length -(intOf i).toNat)
 case atStart=>exact⟨0,Nat.zero_le _,rfl,fB.lit _ _ (nR _) _ rfl,belowA' _ _⟩
 case round=>
  obtain⟨k,hk,rfl,hR,hb⟩:=hrel;have qv:=aBM zs zs.length k;obtain⟨ua,uc,Ei⟩:=hR.shape;subst Ei;have bd:=hb.size;by_cases ai:k<zs.length
  ·obtain⟨b,off,rfl,aa⟩:=hc (by omega)
   have lu:b<w.heap.size:=World.block_lt_of_cell? _ _ (aa 0 (by omega));have OM:∀j,j<zs.length→wr.cell? ⟨b,off+j,none⟩=some (.int .i64 (zs.getD j 0)):=fun j hj=>(hb.cell (p:=⟨b,off+j,none⟩) lu).trans (aa j hj);have g1:=OM k ai;have Nl:Hid (∀j,j<zs.length→wr.cell? ⟨b,off+j,none⟩=some (.int .i64 (zs.getD j 0))):=OM;obtain⟨zk,HZ⟩:∃z,Hid (zs.getD k 0=z):=⟨_,rfl⟩;rw[HZ.out]at g1;clear OM;have hi:(k:Int) <(zs.length:Int):=by omega
   clear hc aa hv;by_cases h0:zs.getD k 0=0
   ·have HR:Hid (srn zs zs.length (k+1)=srn zs zs.length k):=aHX _ _ _ (aKQ fun h=>h.1 h0)
    rw[HZ.out]at h0;subst h0;go_wp2;go_quiet (fail);go_wp2;go_roundw
    case rel=>exact⟨k+1,by omega,by go_num,by rw[HR.out];exact hR,below_drewN hb _⟩
    case measure=>simp[intOf];omega
   ·have Mw:(zk == 0)=false:=by rw[←HZ.out];simpa using h0
    by_cases hgo:0<k∧zs.getD (k-1) 0=zs.getD k 0
    ·have HR:Hid (srn zs zs.length (k+1)=srn zs zs.length k):=aHX _ _ _ (aKQ fun h=>by
      rcases h.2 with e | e
      ·omega
      ·exact e hgo.2)
     have gi:=hgo.1;have be:IntKind.i64.wrap ((k:Int)-1)=((k-1:Nat):Int):=(IntWalk.i64_in _ ⟨by omega,by omega⟩).trans (by omega);have je:((k-1:Nat):Int) <(zs.length:Int):=by omega
     have g2:=Nl.out (k-1) (by omega);rw[hgo.2,HZ.out]at g2;have Qd:(zk == zk)=true:=by simp
     generalize k-1=k1 at *;clear hgo h0;go_wp2;go_quiet (fail);go_wp2;go_roundw
     case rel=>exact⟨k+1,by omega,by go_num,by rw[HR.out];exact hR,below_drewN hb _⟩
     case measure=>simp[intOf];omega
    ·have qk:st zs k=true:=kC.2 ⟨h0,by
      by_cases gi:k=0
      ·exact .inl gi
      ·exact .inr fun e=>hgo ⟨by omega,e⟩⟩
     by_cases gi:0<k
     ·have YL:(zs.getD (k-1) 0 == zk)=false:=by rw[←HZ.out];simpa using fun e=>hgo ⟨gi,e⟩
      have be:IntKind.i64.wrap ((k:Int)-1)=((k-1:Nat):Int):=(IntWalk.i64_in _ ⟨by omega,by omega⟩).trans (by omega);have je:((k-1:Nat):Int) <(zs.length:Int):=by omega
      have g2:=Nl.out (k-1) (by omega);generalize zs.getD (k-1) 0=zj at *;generalize k-1=k1 at *;have qn:Hid (st zs k=true):=qk;have H4:Hid (∀n,fB w.heap.size (wr.drewN n) (.slice ua (srn zs zs.length k).length uc) (srn zs zs.length k)):=fun _=>hR;clear hgo h0 qk hR;go_wp2;go_quiet (fail);go_wp2;go_loopw [5,6] (fun n i w2=>∃m:Nat,k+m≤zs.length∧i=.int .i64 ((k+m:Nat):Int)∧n=.int .i64 m∧chQ zs k m=m∧∃q,w2=wr.drewN q) (fun _ i _=>zs.length -(intOf i).toNat)
      case atStart=>exact⟨0,by omega,rfl,rfl,rfl,_,rfl⟩
      case round=>
       obtain⟨m,hm,rfl,rfl,Ap,q,rfl⟩:=hrel;by_cases hlt2:k+m<zs.length
       ·have g3:=Nl.out (k+m) hlt2
        by_cases vg:zs.getD (k+m) 0=zs.getD k 0
        ·have o8:chQ zs k (m+1)=m+1:=by simp only[chQ];rw[if_pos ⟨Ap,vg⟩]
         have Qd:(zk == zk)=true:=by simp
         rw[vg,HZ.out]at g3;have Ko:((k+m:Nat):Int) <(zs.length:Int):=by omega
         have HM:Hid (k+(m+1)=k+m+1):=rfl;generalize EV:k+m=km at *;clear Ap vg;go_wp2;go_quiet (fail);go_wp2;go_roundw
         case rel=>exact⟨m+1,by omega,by go_num,by go_num,o8,_,rfl⟩
         case measure=>simp[intOf];omega
        ·have M0:(zs.getD (k+m) 0 == zk)=false:=by rw[←HZ.out];simpa using vg
         have o8:chQ zs k (zs.length-k)=m:=by
          have:=wD Ap vg (zs.length-k-m)
          rwa [show m+(zs.length-k-m)=zs.length-k by omega]at this
         have mf:Hid (srn zs zs.length (k+1)=srn zs zs.length k++[((k:Int),(m:Int),zk)]):=by rw[←o8,←HZ.out];exact qW _ _ _ qn.out
         have Ko:((k+m:Nat):Int) <(zs.length:Int):=by omega
         have yg:(srn zs zs.length k).length<1048576:=by omega
         generalize EV:k+m=km at *;generalize zs.getD km 0=zm at *;clear Ap vg o8;go_wp2;go_quiet (fail);go_wp2_with (first | (at_builtin;refine dU rfl _ _ rfl _ _ _ (H4.out _) rfl rfl yg bd ?_;intro v' w1 it ao io) | go_in);rw[←mf.out]at it;go_roundw
         case rel=>exact⟨k+1,by omega,by go_num,it,(below_drewN hb _).trans ao⟩
         case measure=>simp[intOf];omega
       ·have o8:chQ zs k (zs.length-k)=m:=by rw[show zs.length-k=m by omega];exact Ap
        have mf:Hid (srn zs zs.length (k+1)=srn zs zs.length k++[((k:Int),(m:Int),zk)]):=by rw[←o8,←HZ.out];exact qW _ _ _ qn.out
        have yg:(srn zs zs.length k).length<1048576:=by omega
        have Ko:¬((k+m:Nat):Int) <(zs.length:Int):=by omega
        generalize EV:k+m=km at *;clear Ap o8;go_wp2;go_quiet (fail);go_wp2_with (first | (at_builtin;refine dU rfl _ _ rfl _ _ _ (H4.out _) rfl rfl yg bd ?_;intro v' w1 it ao io) | go_in);rw[←mf.out]at it;go_roundw
        case rel=>exact⟨k+1,by omega,by go_num,it,(below_drewN hb _).trans ao⟩
        case measure=>simp[intOf];omega
     ·have RA:k=0:=by omega
      have YH:¬(0:Int) <(k:Int):=by omega
      have qn:Hid (st zs k=true):=qk;have H4:Hid (∀n,fB w.heap.size (wr.drewN n) (.slice ua (srn zs zs.length k).length uc) (srn zs zs.length k)):=fun _=>hR;clear hgo h0 qk hR RA;go_wp2;go_quiet (fail);go_wp2;go_loopw [5,6] (fun n i w2=>∃m:Nat,k+m≤zs.length∧i=.int .i64 ((k+m:Nat):Int)∧n=.int .i64 m∧chQ zs k m=m∧∃q,w2=wr.drewN q) (fun _ i _=>zs.length -(intOf i).toNat)
      case atStart=>exact⟨0,by omega,rfl,rfl,rfl,_,rfl⟩
      case round=>
       obtain⟨m,hm,rfl,rfl,Ap,q,rfl⟩:=hrel;by_cases hlt2:k+m<zs.length
       ·have g3:=Nl.out (k+m) hlt2
        by_cases vg:zs.getD (k+m) 0=zs.getD k 0
        ·have o8:chQ zs k (m+1)=m+1:=by simp only[chQ];rw[if_pos ⟨Ap,vg⟩]
         have Qd:(zk == zk)=true:=by simp
         rw[vg,HZ.out]at g3;have Ko:((k+m:Nat):Int) <(zs.length:Int):=by omega
         have HM:Hid (k+(m+1)=k+m+1):=rfl;generalize EV:k+m=km at *;clear Ap vg;go_wp2;go_quiet (fail);go_wp2;go_roundw
         case rel=>exact⟨m+1,by omega,by go_num,by go_num,o8,_,rfl⟩
         case measure=>simp[intOf];omega
        ·have M0:(zs.getD (k+m) 0 == zk)=false:=by rw[←HZ.out];simpa using vg
         have o8:chQ zs k (zs.length-k)=m:=by
          have:=wD Ap vg (zs.length-k-m)
          rwa [show m+(zs.length-k-m)=zs.length-k by omega]at this
         have mf:Hid (srn zs zs.length (k+1)=srn zs zs.length k++[((k:Int),(m:Int),zk)]):=by rw[←o8,←HZ.out];exact qW _ _ _ qn.out
         have Ko:((k+m:Nat):Int) <(zs.length:Int):=by omega
         have yg:(srn zs zs.length k).length<1048576:=by omega
         generalize EV:k+m=km at *;generalize zs.getD km 0=zm at *;clear Ap vg o8;go_wp2;go_quiet (fail);go_wp2_with (first | (at_builtin;refine dU rfl _ _ rfl _ _ _ (H4.out _) rfl rfl yg bd ?_;intro v' w1 it ao io) | go_in);rw[←mf.out]at it;go_roundw
         case rel=>exact⟨k+1,by omega,by go_num,it,(below_drewN hb _).trans ao⟩
         case measure=>simp[intOf];omega
       ·have o8:chQ zs k (zs.length-k)=m:=by rw[show zs.length-k=m by omega];exact Ap
        have mf:Hid (srn zs zs.length (k+1)=srn zs zs.length k++[((k:Int),(m:Int),zk)]):=by rw[←o8,←HZ.out];exact qW _ _ _ qn.out
        have yg:(srn zs zs.length k).length<1048576:=by omega
        have Ko:¬((k+m:Nat):Int) <(zs.length:Int):=by omega
        generalize EV:k+m=km at *;clear Ap o8;go_wp2;go_quiet (fail);go_wp2_with (first | (at_builtin;refine dU rfl _ _ rfl _ _ _ (H4.out _) rfl rfl yg bd ?_;intro v' w1 it ao io) | go_in);rw[←mf.out]at it;go_roundw
        case rel=>exact⟨k+1,by omega,by go_num,it,(below_drewN hb _).trans ao⟩
        case measure=>simp[intOf];omega
  ·have RE:k=zs.length:=by omega
   subst RE;rw[aKD]at hR;clear hc hv;go_wp2;go_ret;exact⟨_,rfl,hR,hb⟩
def mO(zs:List Int)(fr:List (Blk n)):List Int:=fr.foldl (fun l x=>l.set x.1 1) zs
theorem vJ(zs:List Int)(fr:List (Blk n))(x:Blk n):mO zs (fr++[x])=(mO zs fr).set x.1 1:=by simp[mO]
theorem pP(zs:List Int)(fr:List (Blk n)):(mO zs fr).length=zs.length:=by
 induction fr generalizing zs with
 | nil=>rfl
 | cons x l ih=>simp only[mO,List.foldl_cons]at ih ⊢;rw[ih];simp
def rnO(zs:List Int)(fr:List (Blk n)):List (Int×Int×Int):=rns (mO zs fr) zs.length
def good(zs:List Int)(fr:List (Blk n)):Bool:=decide ((rnO zs fr).length≤20*fr.length)
theorem tC(zs:List Int)(fr:List (Blk n)):(rnO zs fr).length≤zs.length:=tD _ _
def kY(zs ys:List Int):Option Nat:=(List.range (frs zs ys zs.length zs.length).length).find? fun j=>good zs ((frs zs ys zs.length zs.length).take (j+1))
theorem sT(h:∀j,j <(frs zs ys zs.length zs.length).length→good zs ((frs zs ys zs.length zs.length).take (j+1))=false):kY zs ys=none:=
 List.find?_range_eq_none.2 fun i hi=>by rw[h i hi];rfl
theorem sU(hj:j <(frs zs ys zs.length zs.length).length)(hg:good zs ((frs zs ys zs.length zs.length).take (j+1))=true)(h:∀i,i<j→good zs ((frs zs ys zs.length zs.length).take (i+1))=false):kY zs ys=some j:=
 List.find?_range_eq_some.2 ⟨hg,List.mem_range.2 hj,fun i hi=>by rw[h i hi];rfl⟩
def plF(zs ys:List Int):List (Blk zs.length):=if chk [zs,ys]=0 then(match kY zs ys with
 | none=>[]
 | some j=>(frs zs ys zs.length zs.length).take (j+1))else []
def plP(zs ys:List Int):List Int:=(plF zs ys).map fun x=>(x.1:Int)
def plR(zs ys:List Int):List (Int×Int×Int):=if chk [zs,ys]=0 then(match kY zs ys with
 | none=>[]
 | some j=>rnO zs ((frs zs ys zs.length zs.length).take (j+1)))else []
def plC(zs ys:List Int):Int:=if chk [zs,ys]=0 then(match kY zs ys with
 | none=>7
 | some _=>0)else chk [zs,ys]
theorem aMG(h:chk [zs,ys]≠0):plP zs ys=[]∧plR zs ys=[]∧plC zs ys=chk [zs,ys]:=by
 simp[plP,plF,plR,plC,h]
theorem xB(h:chk [zs,ys]=0)(hk:kY zs ys=none):plP zs ys=[]∧plR zs ys=[]∧plC zs ys=7:=by
 simp[plP,plF,plR,plC,h,hk]
theorem xC(h:chk [zs,ys]=0)(hk:kY zs ys=some j):plP zs ys=((frs zs ys zs.length zs.length).take (j+1)).map (fun x=>(x.1:Int))∧plR zs ys=rnO zs ((frs zs ys zs.length zs.length).take (j+1))∧plC zs ys=0:=by
 simp[plP,plF,plR,plC,h,hk]
theorem sR(zs ys:List Int):(plP zs ys).length≤512:=by
 by_cases h:chk [zs,ys]=0
 ·have hl:=(aAI (mD h).2.1).1
  have hf:=jS zs ys zs.length zs.length;cases hk:kY zs ys with
  | none=>rw[(xB h hk).1];simp
  | some j=>rw[(xC h hk).1];simp;omega
 ·rw[(aMG h).1];simp
theorem pF(ie:o.guard=none)(s x:Operand)
  (ho:o.op=.call {callee:=.builtin .append,args:=#[s,x],argTypes:=#[24,24]})
  {base:Nat} {v:Value} {zs ys:List Int} (ap:dH base w v zs) {ad:Addr} {n c:Nat} (hn:ys.length=n) (dz:∀i,i<n→w.cell? (ad.add i)=some (.int .i64 (ys.getD i 0))) (hs:a.eval s=v) (hx:a.eval x=.slice (some ad) n c)
  (ah:zs.length+n<8589934592) (hb:base≤w.heap.size)
  (h:∀v' w',dH base w' v' (zs++ys)→Below base w w'→wpList Tryz.prog ops Q rest (a.put o.dst v') w'):
  wpList Tryz.prog ops Q (o :: rest) a w:=by
 obtain⟨i0,hi,jl,fz,Ae⟩:=info_parts rX;refine wpList_append_own _ ie s x 24 ho base 2 i0 (.int .i64 0) 1 8 Tryz.underlying24 hi jl fz Ae rfl (by decide) v _ _ hs ap ad n c (ys.map (Value.int .i64)) hx (by simp[hn]) ?_ ?_ ?_ ?_ hb ?_
 ·intro j u hj
  have xx:j<ys.length:=by
   by_cases hh:j<ys.length
   ·exact hh
   ·simp[show ys.length≤j by omega]at hj
  rw[dz j (by omega)];simp only[List.getElem?_map,gE xx,Option.map_some,sJ]at hj;rw[←hj];simp[xx]
 ·intro u hu
  simp only[List.mem_map]at hu;obtain⟨z,_,rfl⟩:=hu;rfl
 ·unfold maxLen;omega
 ·omega
 ·intro v' w' h1 h2 _
  refine h v' w' ?_ ((bQ base w).grown h2 hb (fun k hk=>(ap.lt k hk).1));unfold dH;simpa [hn] using h1
theorem Addr.add_at(b off i:Nat):(({block:=b,off:=off,spot:=none}:Addr).add i)=⟨b,off+i,none⟩:=by
 unfold Addr.add;by_cases h0:i=0<;>simp[h0]
theorem pI(a:Option Addr)(c:Nat)(zs:List Int)(w:World)(hp:0<zs.length)(hn:zs.length≤1048576)(hv:Nts w (.slice a zs.length c) zs):
  Calls Tryz.prog 148 #[.slice a zs.length c] w fun e w'=>∃u,e=.returned u∧dH w.heap.size w' u zs∧Bl w w':=by
 obtain⟨_,_,he,hs⟩:=hv.shape;simp only[Value.slice.injEq,true_and]at he;obtain⟨rfl,rfl⟩:=he;obtain⟨b,off,rfl,aa⟩:=hs hp;have AU:=fun w=>Lib.run_eql_slice_nil (P:=Tryz.prog) w 24 2 (some ⟨b,off,none⟩) zs.length c 0 0 Tryz.underlying24;have od:=dH.lit w.heap.size w (nR _) w.heap.size rfl;have dz:∀i,i<zs.length→(w.alloc (.cells #[] 2)).cell? ((⟨b,off,none⟩:Addr).add i)=some (.int .i64 (zs.getD i 0)):=fun i hi=>by
  rw[Addr.add_at,World.cell?_alloc_past _ _ _ (World.block_lt_of_cell? _ _ (aa i (by omega)))];exact aa i (by omega)
 have we:=iJ w (.cells #[] 2);have HL:Hid (∀(v':Value) (w':World),dH w.heap.size w' v' ([]++zs)→dH w.heap.size w' v' zs):=fun _ _ h=>h;clear hs aa hv;go_enter Tryz.func148,Tryz.ntmps148;go_wp2_with (at_builtin;refine pF rfl _ _ rfl od rfl dz rfl rfl (by simp;omega) (by simp) ?_;intro v' w1 ee di);go_ret;exact⟨v',rfl,HL.out _ _ ee,we.trans di⟩
