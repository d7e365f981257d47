import Derived.Test.YtmpagpeenjddgaaGreatRows
import Derived.WalkKit
import Derived.Orders
import Derived.WalkSpells
import Derived.WalkLawsBesides
import Derived.Deep.QuietTactic
import Derived.BigQuiet
import Derived.Deep.OwnRows
import Derived.OrdersHeld
import Derived.Deep.RegionHeld
import Derived.Shelf.SortG.Plain
import Derived.Test.YtmpagpeenjddgaaGreatProg
import Derived.Deep.RegionWith
import Derived.RangeFuncNested
import Derived.RangeFuncBound
import Derived.RangeFuncCalls
import Derived.RangeFuncLeaves
import Derived.Shelf.Abstract
import Derived.Shelf.RegionOpen
import Derived.OwnWalkIn
import Derived.TacticsInMore
import Derived.LoopNIn
import Derived.LoopIn
import Derived.Test.YtmpagpeenjddgaaGreatSh0
set_option maxHeartbeats 9999999
set_option maxRecDepth 99999
set_option linter.all false
namespace Go.Proofs.YtmpagpeenjddgaaGreat
open Go.RowKit
section
variable {P : Program} {ops : Array Oper} {Q : Exit -> Act -> World -> Prop} {md : Region.Mode}
def aLA(md:Region.Mode)(ops:Array Oper)(l:Array Bool):Prop:=∀k,l.getD k false=true->∀o,ops[k]?=some o->∀e∈o.after,Region.binds md e=true->l.getD e.on false=true
theorem aHD(I:Array Bool->Act->World->Prop)
  (D:∀l a w,l.size=ops.size->aLA md ops l->I l a w->∀i o,ops[i]?=some o->l.getD i true=false->l.getD i false=false->(∀e∈o.after,Region.binds md e=true->l.getD e.on false=true)->wpOp P ops Q i (fun a' w'=>I (l.setIfInBounds i true) a' w') a w)
  (s:∀l a w,l.size=ops.size->I l a w->(∀i,i<ops.size->l.getD i false=true)->Q .normal a w)
  (E:∀l:Array Bool,l.size=ops.size->Region.ready md ops l=[]->∀i,i<ops.size->l.getD i false=true):
  ∀(fuel:Nat) (l:Array Bool) (a:Act) (w:World),l.size=ops.size->aLA md ops l->l.toList.count false=fuel->I l a w->wpAny P md ops Q fuel l a w:=by
 intro fuel;induction fuel with
 | zero=>
  intro l a w c _ v h;have u:∀i,i<ops.size->l.getD i false=true:=fun i z=>by
   have b:i<l.size:=by omega
   cases f:l[i]with
   | true=>simp[b,f]
   | false=>
    exfalso
    have K:false∈l.toList:=by rw[<-f];exact Array.getElem_mem_toList b
    have:=List.count_pos_iff.2 K
    omega
  have n:Region.ready md ops l=[]:=by
   cases N:Region.ready md ops l with
   | nil=>rfl
   | cons j r=>
    exfalso
    obtain⟨d,o,g,_⟩:=mem_ready.1 (show j∈Region.ready md ops l by rw[N];simp);have J:j<ops.size:=(Array.getElem?_eq_some_iff.1 g).1;have m:=u j J;have O:j<l.size:=by omega
    simp[O]at d m
    rw[d]at m;cases m
  exact⟨n,s l a w c h u⟩
 | succ fuel ih=>
  intro l a w c t v h;refine⟨fun n=>s l a w c h (E l c n),fun i z=>?_⟩;obtain⟨d,o,g,x⟩:=mem_ready.1 z;have H:i<ops.size:=(Array.getElem?_eq_some_iff.1 g).1;have b:i<l.size:=by omega
  have p:l[i]=false:=by simpa [b] using d
  have C:l.getD i false=false:=by simp[b,p]
  refine wpOp_mono (fun a' w' F=>ih (l.setIfInBounds i true) a' w' (by simpa using c) ?_ ?_ F) (D l a w c t h i o g d C x)
  ·intro k A M q e y f
   by_cases B:i=k
   ·subst B
    obtain rfl:=Option.some.inj (g.symm.trans q);exact getD_set_true (x e y f)
   ·rw[getD_set_ne false B]at A
    exact getD_set_true (t k A M q e y f)
  ·have G:i<l.toList.length:=by simpa using b
   rw[Array.toList_setIfInBounds,List.count_set G];have:l.toList[i]=false:=by simpa using p
   have L:Array.count false l=fuel+1:=by simpa using v
   simp[this,L]
theorem aBH(d:∀(k:Nat) (o:Oper),ops[k]?=some o->∀e∈o.after,e.on<k)(l:Array Bool)(g:l.size=ops.size)(hr:Region.ready md ops l=[]):∀i,i<ops.size->l.getD i false=true:=by
 intro i;induction i using Nat.strongRecOn with
 | ind i ih=>
  intro c;have a:i<l.size:=by omega
  cases b:l[i]with
  | true=>simp[a,b]
  | false=>
   exfalso
   have:i∈Region.ready md ops l:=mem_ready.2 ⟨by simp[a,b],ops[i],Array.getElem?_eq_getElem c,fun e f _=>by
    have:=d i _ (Array.getElem?_eq_getElem c) e f
    exact ih e.on this (by omega)⟩
   rw[hr]at this;cases this
theorem aHN(h:(ops.toList.zipIdx.all fun p=>p.1.after.toList.all fun e=>decide (e.on<p.2))=true)(k:Nat)(o:Oper)(d:ops[k]?=some o):∀e∈o.after,e.on<k:=fun e b=>by
 have c:(o,k)∈ops.toList.zipIdx:=by
  rw[List.mem_zipIdx_iff_getElem?];simpa using d
 have a:=List.all_eq_true.1 h _ c;exact of_decide_eq_true (List.all_eq_true.1 a e (by simpa using b))
theorem eC{i:Nat}{o:Oper}{K:Act->World->Prop}{a:Act}{w:World}(c:ops[i]?=some o)(b:o.guard=none)(h:o.wp P a w K Q):wpOp P ops Q i K a w:=by
 unfold wpOp;simp only[c];rw[if_pos (by simp[Region.wanted,b])];exact .inl h
end
end Go.Proofs.YtmpagpeenjddgaaGreat
namespace Go.Proofs.YtmpagpeenjddgaaGreat
open Go.RowKit
structure Upd(lo hi:Nat)(w w':World):Prop where
 os:w'.os=w.os
 tape:w'.tape=w.tape
 output:w'.output=w.output
 size:w.heap.size<=w'.heap.size
 block:∀k,k<w.heap.size->(k<lo\/hi<=k)->w'.heap[k]?=w.heap[k]?
theorem Upd.refl(b a:Nat)(w:World):Upd b a w w:=⟨rfl,rfl,rfl,nR _,fun _ _ _=>rfl⟩
theorem Upd.trans{lo hi:Nat}{a b c:World}(h:Upd lo hi a b)(k:Upd lo hi b c):Upd lo hi a c:=
 ⟨k.os.trans h.os,k.tape.trans h.tape,k.output.trans h.output,lT h.size k.size,fun i hi' d=>(k.block i (lL hi' h.size) d).trans (h.block i hi' d)⟩
theorem Upd.below{lo hi B:Nat}{w w':World}(h:Upd lo hi w w')(h1:B<=lo)(h2:B<=w.heap.size):Below B w w':=
 ⟨h.os,h.tape,h.output,h.size,fun k a=>h.block k (by omega) (by omega)⟩
theorem Upd.setCell{lo hi:Nat}{a w:World}(h:Upd lo hi a w){p:Addr}(h1:lo<=p.block)(h2:p.block<hi)(u:Value):Upd lo hi a (w.setCell p u):=
 h.trans ⟨rfl,rfl,rfl,by simp,fun k _ b=>Below.heap_setCell w p u k (by omega)⟩
def inB(v lo hi:Int):Bool:=decide (lo<=v/\v<=hi)
theorem oB{v lo hi:Int}(h:lo<=v/\v<=hi):inB v lo hi=true:=by simp[inB,h]
theorem iK{v lo hi:Int}(h:¬(lo<=v/\v<=hi)):inB v lo hi=false:=by simp only[inB];exact decide_eq_false h
theorem fC(v b a:Int)(w:World):
  Calls Tryz.prog 34 #[iV v,iV b,iV a] w fun e w'=>e=.returned (.bool (inB v b a))/\w=w':=by
 by_cases c:b<=v
 ·by_cases d:v<=a
  ·rw[oB ⟨c,d⟩]
   go_enter Tryz.func34,Tryz.ntmps34
   go_wp2
   go_ret
   exact⟨rfl,rfl⟩
  ·rw[iK (by omega)]
   go_enter Tryz.func34,Tryz.ntmps34
   go_wp2
   go_ret
   exact⟨rfl,rfl⟩
 ·rw[iK (by omega)]
  go_enter Tryz.func34,Tryz.ntmps34
  go_wp2
  go_ret
  exact⟨rfl,rfl⟩
theorem iS(v:Int)(w:World):
  Calls Tryz.prog 30 #[iV v] w fun e w'=>e=.returned (.bool (inB v 8 512))/\w=w':=by
 by_cases a:8<=v
 ·by_cases b:v<=512
  ·rw[oB ⟨a,b⟩]
   go_enter Tryz.func30,Tryz.ntmps30
   go_wp2
   go_ret
   exact⟨rfl,rfl⟩
  ·rw[iK (by omega)]
   go_enter Tryz.func30,Tryz.ntmps30
   go_wp2
   go_ret
   exact⟨rfl,rfl⟩
 ·rw[iK (by omega)]
  go_enter Tryz.func30,Tryz.ntmps30
  go_wp2
  go_ret
  exact⟨rfl,rfl⟩
theorem pI:(Tryz.prog.info? 2).map (fun i=>(i.zero,i.size,i.bytes))=some (some (iV 0),1,8):=by kernel_rfl
def dA(zs:List Int):Array Value:=(zs.map (Value.int .i64)).toArray
structure Nts(w:World)(v:Value)(zs:List Int):Prop where
 small:∀i,-9223372036854775808<=zs.getD i 0/\zs.getD i 0<=9223372036854775807
 shape:∃a cap,v=.slice a zs.length cap/\(0<zs.length->∃b off,a=some ⟨b,off,none⟩/\∀i,i<zs.length->w.cell? (aD b (off+i))=some (iV (zs.getD i 0)))
theorem Nts.kept{w w':World}{v:Value}{zs:List Int}(h:Nts w v zs)(k:∀b o,b<w.heap.size->w'.cell? (aD b o)=w.cell? (aD b o)):Nts w' v zs:=by
 obtain⟨a,c,l,g⟩:=h.shape;refine⟨h.small,a,c,l,fun j=>?_⟩;obtain⟨b,off,f,d⟩:=g j;exact⟨b,off,f,fun i e=>(k b _ (World.block_lt_of_cell? _ _ (d i e))).trans (d i e)⟩
theorem Nts.below{w w':World}{v:Value}{zs:List Int}(h:Nts w v zs)(k:Bl w w'):Nts w' v zs:=
 h.kept fun b o a=>k.cell (p:=aD b o) a
theorem Nts.alloc{w:World}{v:Value}{zs:List Int}(h:Nts w v zs)(o:Obj):Nts (w.alloc o) v zs:=
 h.kept fun _ _ a=>World.cell?_alloc_past _ _ _ a
def tG(zs:List Int)(k:Nat):Array Value:=dA (zs.take k++List.replicate (zs.length-k) 0)
theorem aAC(zs:List Int):madeCells #[iV 0] zs.length=tG zs 0:=by
 apply Array.toList_inj.1
 rw[toList_madeCells_one];simp[tG,dA]
structure bE(lo hi:Nat)(w:World)(v:Value)(zs:List Int):Prop where
 small:∀i,-9223372036854775808<=zs.getD i 0/\zs.getD i 0<=9223372036854775807
 shape:∃a cap,v=.slice a zs.length cap/\(0<zs.length->∃b off,a=some ⟨b,off,none⟩/\lo<=b/\b<hi/\b<w.heap.size/\∀i,i<zs.length->w.cell? (aD b (off+i))=some (iV (zs.getD i 0))/\w.frozen? (aD b (off+i))=false)
theorem bE.c3{lo hi:Nat}{w:World}{v:Value}{zs:List Int}(h:bE lo hi w v zs):Nts w v zs:=by
 obtain⟨a,c,j,f⟩:=h.shape;refine⟨h.small,a,c,j,fun g=>?_⟩;obtain⟨b,off,e,_,_,_,d⟩:=f g;exact⟨b,off,e,fun i hi=>(d i hi).1⟩
theorem bE.kept{lo hi:Nat}{w w':World}{v:Value}{zs:List Int}(h:bE lo hi w v zs)(p:w.heap.size<=w'.heap.size)(k:∀b,lo<=b->b<hi->b<w.heap.size->w'.heap[b]?=w.heap[b]?):bE lo hi w' v zs:=by
 obtain⟨a,c,o,m⟩:=h.shape;refine⟨h.small,a,c,o,fun n=>?_⟩;obtain⟨b,off,l,d,f,j,g⟩:=m n;have e:=k b d f j;refine⟨b,off,l,d,f,by omega,fun i hi=>?_⟩;rw[World.cell?_of_block (w:=w) (w':=w') (a:=⟨b,off+i,none⟩) e,World.frozen?_of_block (w:=w) (w':=w') (a:=⟨b,off+i,none⟩) e];exact g i hi
theorem bE.upd{lo hi lo' hi':Nat}{w w':World}{v:Value}{zs:List Int}(h:bE lo hi w v zs)(k:Upd lo' hi' w w')(hd:hi<=lo'\/hi'<=lo):bE lo hi w' v zs:=
 h.kept k.size fun b c d a=>k.block b a (by omega)
theorem bE.below{lo hi:Nat}{w w':World}{v:Value}{zs:List Int}(h:bE lo hi w v zs)(k:Bl w w'):bE lo hi w' v zs:=
 h.kept k.size fun b _ _ a=>k.block b a
theorem bE.wider{lo hi lo' hi':Nat}{w:World}{v:Value}{zs:List Int}(h:bE lo hi w v zs)(h1:lo'<=lo)(h2:hi<=hi'):bE lo' hi' w v zs:=by
 obtain⟨a,c,j,g⟩:=h.shape;refine⟨h.small,a,c,j,fun i=>?_⟩;obtain⟨b,off,f,k,l,e,d⟩:=g i;exact⟨b,off,f,by omega,by omega,e,d⟩
theorem bE.empty(d c:Nat)(w:World)(a:Option Addr)(b:Nat):bE d c w (.slice a 0 b) []:=
 ⟨fun i=>by simp,a,b,rfl,fun h=>by simp at h⟩
theorem bE.made(w:World)(zs:List Int)(h:∀i,-9223372036854775808<=zs.getD i 0/\zs.getD i 0<=9223372036854775807)(g:Nat)(a:g=w.heap.size):bE g (g+1) (w.alloc (.cells (dA zs) 2)) (sL g 0 zs.length zs.length) zs:=by
 subst a;refine⟨h,_,_,rfl,fun _=>⟨_,_,rfl,nR _,Nat.lt_succ_self _,by simp,fun i b=>?_⟩⟩;rw[World.cell?_alloc_at _ _ _ _ rfl,World.frozen?_alloc_at _ _ _ _ rfl];simp[dA,b]
theorem bE.dt{w:World}{base:Nat}{v:Value}{zs:List Int}(h:w.ownsRow base 2 1 v zs.length (zs.map (Value.int .i64)))(d:∀i,-9223372036854775808<=zs.getD i 0/\zs.getD i 0<=9223372036854775807):bE base w.heap.size w v zs:=by
 rcases h.2 with⟨b,n⟩ | ⟨g,e,f,b,j,k,p,q,r,a⟩
 ·refine⟨d,none,0,by rw[b,n],fun o=>by omega⟩
 ·subst b
  have c:g<w.heap.size:=by
   by_cases l:g<w.heap.size
   ·exact l
   ·simp[show w.heap.size<=g by omega]at k
  refine⟨d,_,_,rfl,fun o=>⟨g,0,rfl,j,c,c,fun i m=>?_⟩⟩;rw[Nat.zero_add];refine⟨?_,h.frozenAt i⟩;rw[h.cellAt i (by omega)];simp[m]
def dJ(base:Nat)(w:World)(v:Value)(zs:List Int):Prop:=w.ownsRow base 2 1 v zs.length (zs.map (Value.int .i64))
theorem dJ.own{base:Nat}{w:World}{v:Value}{zs:List Int}(h:dJ base w v zs)(a:∀i,-9223372036854775808<=zs.getD i 0/\zs.getD i 0<=9223372036854775807):bE base w.heap.size w v zs:=bE.dt h a
theorem dJ.shape{base:Nat}{w:World}{v:Value}{zs:List Int}(h:dJ base w v zs):∃a cap,v=.slice a zs.length cap:=by
 rcases h.2 with⟨b,d⟩ | ⟨g,cap,c,b,_⟩
 ·exact⟨none,0,by rw[b,d]⟩
 ·exact⟨_,_,b⟩
theorem dJ.start(base:Nat)(w:World):dJ base w (.slice none 0 0) []:=World.ownsRow_nil w base 2 1
theorem dJ.lit(base:Nat)(w:World)(a:base<=w.heap.size)(g:Nat)(b:g=w.heap.size):dJ base (w.alloc (.cells #[] 2)) (sL g 0 0 0) []:=by
 subst b;exact World.ownsRow_lit (e:=2) (size:=1) w #[] 0 a (by decide) rfl
theorem kN{ops:Array Oper}{rest:List Oper}{o:Oper}{a:Act}{Q:Exit->Act->World->Prop}(z:o.guard=none)(s x:Operand)
  (q:o.op=.call {callee:=.builtin .append,args:=#[s,x],argTypes:=#[29,29]})
  {base:Nat} {w0:World} {v:Value} {zs:List Int} (c:Int) (e:dJ base w0 v zs) (r:a.eval s=v) (hx:a.eval x=sL w0.heap.size 0 1 1)
  (A:zs.length<8589934592) (m:base<=w0.heap.size)
  (h:∀v' w',dJ base w' v' (zs++[c])->Below base w0 w'->w0.heap.size<=w'.heap.size->(w0.alloc (.cells #[iV c] 2)).grownBy w' v.ownBlock->wpList Tryz.prog ops Q rest (a.put o.dst v') w'):
  wpList Tryz.prog ops Q (o :: rest) a (w0.alloc (.cells #[iV c] 2)):=by
 obtain⟨t,n,y,w,g⟩:=info_parts pI;refine wpList_append_own _ z s x 29 q base 2 t (iV 0) 1 8 Tryz.underlying29 n y w g rfl (by decide) v _ _ r (e.alloc _) ⟨w0.heap.size,0,none⟩ 1 1 [iV c] hx rfl ?_ ?_ ?_ ?_ ?_ ?_
 ·intro j u b
  match j,b with
  | 0,b=>simp at b;subst b;simp[Addr.add,World.cell?_alloc_at]
 ·intro u f;simp at f;subst f;rfl
 ·unfold maxLen;omega
 ·omega
 ·simp;omega
 ·intro v' w' l d _
  have i:Below base w0 w':=((bQ base w0).alloc m _).grown d (by simp;omega) (fun k p=>(e.lt k p).1);refine h v' w' ?_ i (by have:=d.size;simp at this;omega) d;unfold dJ;simpa using l
theorem bE.stored{lo hi:Nat}{w:World}{b off n cap:Nat}{zs:List Int}(h:bE lo hi w (sL b off n cap) zs)(j:Nat)(u:j<n)(x:Int)(hx:-9223372036854775808<=x/\x<=9223372036854775807):
  bE lo hi (w.setCell (aD b (off+j)) (iV x)) (sL b off n cap) (zs.set j x)/\Upd lo hi w (w.setCell (aD b (off+j)) (iV x)):=by
 obtain⟨a,e,m,r⟩:=h.shape;simp only[Value.slice.injEq]at m;obtain⟨rfl,rfl,rfl⟩:=m;obtain⟨t,o,k,f,g,q,p⟩:=r (by omega);simp only[sJ,Addr.mk.injEq,and_true]at k;obtain⟨rfl,rfl⟩:=k;refine⟨⟨fun i=>?_,_,_,by rw[List.length_set],fun _=>⟨b,off,rfl,f,g,by simpa using q,fun i hi=>?_⟩⟩,(Upd.refl _ _ _).setCell f g _⟩
 ·have l:=h.small i
  simp only[gD]at l |-;rw[List.getElem?_set];by_cases c:j=i
  ·rw[if_pos c,if_pos (by omega)];simpa using hx
  ·rw[if_neg c];exact l
 ·rw[List.length_set]at hi
  have d:=p i hi;refine⟨?_,by simpa using d.2⟩;simp only[gD];rw[List.getElem?_set];by_cases c:j=i
  ·subst c
   rw[if_pos rfl,if_pos hi,World.cell?_setCell_same _ _ _ d.1];rfl
  ·rw[if_neg c,World.cell?_setCell_other _ _ _ _ (by intro s;simp only[Addr.mk.injEq]at s;omega),d.1];rfl
def LRd(w:World)(v:Value)(zss:List (List Int)):Prop:=
 ∃b off cap,v=sL b off zss.length cap/\∀i,i<zss.length->∃a c,w.cell? (aD b (off+i))=some (.slice a (zss.getD i []).length c)/\Nts w (.slice a (zss.getD i []).length c) (zss.getD i [])
def eV(n:Nat)(zs:List Int):Bool:=!(inB zs.length 8 512) || (zs.length:Int) !=(n:Int)
def eH(zs:List Int):Bool:=zs.any fun z=>!(inB z 0 65535)
def eQ(zs:List Int):Bool:=zs.getD 0 0 != 0 || zs.getD 1 0 != 0
def chk(zss:List (List Int)):Int:=if zss.any (eV (zss.getD 0 []).length)then 1 else if zss.any eH then 2 else if zss.any eQ then 5 else 0
theorem wI{α:Type}{p:α->Bool}{l:List α}{d:α}{i:Nat}(a:i<l.length)(h:p (l.getD i d)=true):l.any p=true:=by
 refine List.any_eq_true.2 ⟨l.getD i d,?_,h⟩;simp[a]
theorem mO{α:Type}{p:α->Bool}{l:List α}(d:α)(h:∀i,i<l.length->p (l.getD i d)=false):l.any p=false:=by
 rw[List.any_eq_false];intro x b;obtain⟨i,a,rfl⟩:=List.mem_iff_getElem.1 b;have:=h i a;simpa [a] using this
theorem kL(v:Value)(f:List (List Int))(w:World)(hv:LRd w v f)(h0:0<f.length)(hn:f.length<=1048576)(M:∀i,(f.getD i []).length<=1048576):
  Calls Tryz.prog 22 #[v] w fun e w'=>e=.returned (iV (chk f))/\w=w':=by
 obtain⟨b,off,cap,rfl,r⟩:=hv;obtain⟨a0,c0,e0,n0⟩:=r 0 h0;rw[Nat.add_zero]at e0;obtain⟨l,K⟩:∃l,Hid (f.getD 0 []=l):=⟨_,rfl⟩;rw[K.out]at e0;have qd:l.length<=1048576:=by rw[<-K.out];exact M 0
 go_enter Tryz.func22,Tryz.ntmps22
 go_wp2
 go_loop [13] (fun i=>∃k:Nat,k<=f.length/\i=iV k/\∀j,j<k->eV l.length (f.getD j [])=false) (fun i=>f.length -(intOf i).toNat)
 case atStart=>exact⟨0,Nat.zero_le _,rfl,fun j C=>by omega⟩
 case round=>
  obtain⟨k,X,rfl,m⟩:=hrel;by_cases p:k<f.length
  ·obtain⟨a,c,W,F⟩:=r k p
   have Y:=M k;have u:Hid (eV l.length (f.getD k [])=(!(inB (f.getD k []).length 8 512) || ((f.getD k []).length:Int) !=(l.length:Int))):=rfl;have A:Hid (eV l.length (f.getD k [])=true->chk f=1):=fun h=>if_pos (wI p (by rw[K.out];exact h));generalize Bv:f.getD k []=g at *;clear r;go_wp2_with fail;refine(fC _ _ _ _).mono ?_;rintro e w' ⟨rfl,rfl⟩;by_cases n:inB g.length 8 512=true
   ·rw[n]
    by_cases P:g.length=l.length
    ·have O:((g.length:Int) !=(l.length:Int))=false:=by simp[P]
     have I:eV l.length g=false:=by rw[u.out,n,O];rfl
     clear n P;go_wp2;go_round
     case rel=>
      refine⟨k+1,by omega,by go_num,fun j C=>?_⟩;by_cases o:j=k
      ·rw[o,Bv];exact I
      ·exact m j (by omega)
     case measure=>simp[intOf];omega
    ·have O:((g.length:Int) !=(l.length:Int))=true:=by simp;omega
     have I:eV l.length g=true:=by rw[u.out,n,O];rfl
     have E:Hid (chk f=1):=A.out I;clear n P;go_wp2;go_ret;exact⟨by rw[E.out];rfl,rfl⟩
   ·have D:inB g.length 8 512=false:=by simpa using n
    have I:eV l.length g=true:=by rw[u.out,D];rfl
    have E:Hid (chk f=1):=A.out I;rw[D];clear n D;go_wp2;go_ret;exact⟨by rw[E.out];rfl,rfl⟩
  ·have s:f.any (eV l.length)=false:=mO [] fun i L=>m i (by omega)
   have E:Hid (chk f=if f.any eH then 2 else if f.any eQ then 5 else 0):=by unfold chk;rw[K.out,s];rfl
   have V:∀i,i<f.length->8<=(f.getD i []).length:=fun i L=>by
    have:=m i (by omega)
    simp only[eV,Bool.or_eq_false_iff,Bool.not_eq_false',inB,decide_eq_true_eq]at this;omega
   clear s m e0 n0;go_wp2;go_loop [33] (fun i=>∃k:Nat,k<=f.length/\i=iV k/\∀j,j<k->eH (f.getD j [])=false) (fun i=>f.length -(intOf i).toNat)
   case atStart=>exact⟨0,Nat.zero_le _,rfl,fun j C=>by omega⟩
   case round=>
    obtain⟨k,X,rfl,m⟩:=hrel;by_cases p:k<f.length
    ·obtain⟨a,c,W,F⟩:=r k p
     have Y:=M k;have TJ:=V k p;have A:Hid (eH (f.getD k [])=true->chk f=2):=fun h=>by rw[E.out];exact if_pos (wI p h)
     generalize Bv:f.getD k []=g at *;obtain⟨a1,c1,H,G⟩:=F.shape;simp only[Value.slice.injEq,true_and]at H;obtain⟨rfl,rfl⟩:=H;obtain⟨b1,o1,rfl,B⟩:=G (by omega);clear r F G;go_wp2;go_loop [39] (fun i=>∃q:Nat,q<=g.length/\i=iV q/\∀j,j<q->inB (g.getD j 0) 0 65535=true) (fun i=>g.length -(intOf i).toNat)
     case atStart=>exact⟨0,Nat.zero_le _,rfl,fun j C=>by omega⟩
     case round=>
      obtain⟨q,hq,rfl,T⟩:=hrel;by_cases J:q<g.length
      ·have g1:=B q J
       have Z:Hid (inB (g.getD q 0) 0 65535=false->eH g=true):=fun h=>wI (d:=0) J (by rw[h];rfl);generalize hzq:g.getD q 0=z at *;clear B;go_wp2_with fail;refine(fC _ _ _ _).mono ?_;rintro e w' ⟨rfl,rfl⟩;by_cases n:inB z 0 65535=true
       ·rw[n]
        go_wp2
        go_round
        case rel=>
         refine⟨q+1,by omega,by go_num,fun j C=>?_⟩;by_cases Q:j=q
         ·rw[Q,hzq];exact n
         ·exact T j (by omega)
        case measure=>simp[intOf];omega
       ·have D:inB z 0 65535=false:=by simpa using n
        have t:Hid (chk f=2):=A.out (Z.out D);rw[D];clear n D;go_wp2;go_ret;exact⟨by rw[t.out];rfl,rfl⟩
      ·have S:eH g=false:=mO 0 fun i L=>by rw[T i (by omega)];rfl
       clear T B;go_wp2;go_round
       case rel=>
        refine⟨k+1,by omega,by go_num,fun j C=>?_⟩;by_cases o:j=k
        ·rw[o,Bv];exact S
        ·exact m j (by omega)
       case measure=>simp[intOf];omega
    ·have s:f.any eH=false:=mO [] fun i L=>m i (by omega)
     have U:Hid (chk f=if f.any eQ then 5 else 0):=by rw[E.out,s];rfl
     clear s m;go_wp2;go_loop [50] (fun i=>∃k:Nat,k<=f.length/\i=iV k/\∀j,j<k->eQ (f.getD j [])=false) (fun i=>f.length -(intOf i).toNat)
     case atStart=>exact⟨0,Nat.zero_le _,rfl,fun j C=>by omega⟩
     case round=>
      obtain⟨k,X,rfl,m⟩:=hrel;by_cases p:k<f.length
      ·obtain⟨a,c,W,F⟩:=r k p
       have Y:=M k;have TJ:=V k p;have A:Hid (eQ (f.getD k [])=true->chk f=5):=fun h=>by rw[U.out];exact if_pos (wI p h)
       have u:Hid (eQ (f.getD k [])=((f.getD k []).getD 0 0 != 0 || (f.getD k []).getD 1 0 != 0)):=rfl;generalize Bv:f.getD k []=g at *;obtain⟨a1,c1,H,G⟩:=F.shape;simp only[Value.slice.injEq,true_and]at H;obtain⟨rfl,rfl⟩:=H;obtain⟨b1,o1,rfl,B⟩:=G (by omega);have g0:=B 0 (by omega);have g1:=B 1 (by omega);rw[Nat.add_zero]at g0;generalize g.getD 0 0=x at *;generalize g.getD 1 0=y at *;have ed:(1:Int) <(g.length:Int):=by omega
       have qd:0<g.length:=by omega
       clear r F B G;by_cases N:x=0
       ·by_cases R:y=0
        ·subst N R
         have S:eQ g=false:=by rw[u.out];rfl
         go_wp2
         go_round
         case rel=>
          refine⟨k+1,by omega,by go_num,fun j C=>?_⟩;by_cases o:j=k
          ·rw[o,Bv];exact S
          ·exact m j (by omega)
         case measure=>simp[intOf];omega
        ·have oy:(y != 0)=true:=by simpa using R
         have t:Hid (chk f=5):=A.out (by rw[u.out,oy];simp);subst N;clear R;go_wp2;go_ret;exact⟨by rw[t.out];rfl,rfl⟩
       ·have br:(x != 0)=true:=by simpa using N
        have t:Hid (chk f=5):=A.out (by rw[u.out,br];rfl);clear N;go_wp2;go_ret;exact⟨by rw[t.out];rfl,rfl⟩
      ·have s:f.any eQ=false:=mO [] fun i L=>m i (by omega)
       have t:Hid (chk f=0):=by rw[U.out,s];rfl
       clear s m r;go_wp2;go_ret;exact⟨by rw[t.out];rfl,rfl⟩
section
variable {P : Program} {ops : Array Oper} {Q : Exit -> Act -> World -> Prop} {md : Region.Mode} {S : World -> Prop} {L : Nat}
def eB(P:Program)(md:Region.Mode)(ops:Array Oper)(Q:Exit->Act->World->Prop)(S:World->Prop)(L:Nat):Nat->Array Bool->Act->World->Prop
 | 0,listed,a,w=>Region.ready md ops listed=[]/\Q .normal a w
 | fuel+1,listed,a,w=>
  (Region.ready md ops listed=[]->Q .normal a w)/\
  ∀i∈Region.ready md ops listed,wpOp P ops Q i (fun a' w'=>(i≠L->S w')/\eB P md ops Q S L fuel (listed.setIfInBounds i true) a' w') a w
theorem nH:∀(fuel:Nat) (listed:Array Bool) (a:Act) (w:World),eB P md ops Q S L fuel listed a w->wpAny P md ops Q fuel listed a w
 | 0,_,_,_,h=>h
 | fuel+1,_,_,_,h=>⟨h.1,fun i d=>wpOp_mono (fun b w' c=>nH fuel _ b w' c.2) (h.2 i d)⟩
theorem aDD{i:Nat}{oi:Oper}{fuel:Nat}{listed:Array Bool}{a:Act}{w:World}(hr:Region.ready md ops listed=[i])(g:ops[i]?=some oi)(f:oi.guard=none)
  (h:∀K':Act->World->Prop,(∀a' w',(i≠L->S w')->eB P md ops Q S L fuel (listed.setIfInBounds i true) a' w'->K' a' w')->oi.wp P a w K' Q):eB P md ops Q S L (fuel+1) listed a w:=by
 refine⟨fun c=>by simp[hr]at c,fun j b=>?_⟩;rw[hr]at b;simp only[List.mem_singleton]at b;subst b;unfold wpOp;simp only[g];rw[if_pos (by simp[Region.wanted,f])];exact .inl (h _ fun _ _ d e=>⟨d,e⟩)
theorem oE(i:Nat){oi:Oper}{fuel:Nat}{listed:Array Bool}{a:Act}{w:World}(c:ops[i]?=some oi)(h:∀K':Act->World->Prop,(∀a' w',(i≠L->S w')->eB P md ops Q S L fuel (listed.setIfInBounds i true) a' w'->K' a' w')->oi.wp P a w K' Q)(hr:Region.ready md ops listed=[i]:=by kernel_rfl)(b:oi.guard=none:=by rfl):eB P md ops Q S L (fuel+1) listed a w:=aDD hr c b h
theorem aT{listed:Array Bool}{a:Act}{w:World}(hr:Region.ready md ops listed=[])(h:Q .normal a w):∀fuel,eB P md ops Q S L fuel listed a w
 | 0=>⟨hr,h⟩
 | _+1=>⟨fun _=>h,by rw[hr];simp⟩
theorem bB(S:World->Prop)(L:Nat){id:Nat}{a:Act}{w:World}(b:P.follows .mixedOrders=true)
  (h:eB P .any ops Q S L ops.size (Array.replicate ops.size false) a w.drew):(Code.region id ops true).wp P Q a w:=
 wp_region_any b (nH _ _ _ _ h)
end
end Go.Proofs.YtmpagpeenjddgaaGreat
namespace Go.Proofs.YtmpagpeenjddgaaGreat
open Go.RowKit
def fS(B:Int):Int:=if 8<=B/\B<=512 then(B+17) / 20 else 0
theorem qQ(B:Int)(w:World):
  Calls Tryz.prog 96 #[iV B] w fun e w'=>e=.returned (iV (fS B))/\w=w':=by
 by_cases a:8<=B/\B<=512
 ·have c:=oB a
  have b:Hid (fS B=(B+17) / 20):=if_pos a;have d:(B-2+20-1).tdiv 20=(B+17) / 20:=by rw[Int.tdiv_eq_ediv_of_nonneg (by omega)];congr 1;omega
  go_enter Tryz.func96,Tryz.ntmps96
  go_wp2_with fail
  refine(fC _ _ _ _).mono ?_;rintro e w' ⟨rfl,rfl⟩;go_wp2;go_ret;exact⟨by rw[b.out];go_num,rfl⟩
 ·have c:=iK a
  have b:Hid (fS B=0):=if_neg a;go_enter Tryz.func96,Tryz.ntmps96;go_wp2_with fail;refine(fC _ _ _ _).mono ?_;rintro e w' ⟨rfl,rfl⟩;go_wp2;go_ret;exact⟨by rw[b.out];rfl,rfl⟩
theorem qW(B:Int)(w:World):
  Calls Tryz.prog 74 #[iV B] w fun e w'=>e=.returned (iV (fS B))/\w=w':=by
 by_cases a:8<=B/\B<=512
 ·have c:=oB a
  have b:Hid (fS B=(B+17) / 20):=if_pos a;go_enter Tryz.func74,Tryz.ntmps74;go_wp2_with fail;refine(iS _ _).mono ?_;rintro e w' ⟨rfl,rfl⟩;go_wp2;go_loop [3] (fun i=>∃k:Nat,((k:Int)-1)*20<B-2/\i=iV k) (fun i=>600 -(intOf i).toNat)
  case atStart=>exact⟨0,by omega,rfl⟩
  case round=>
   obtain⟨k,f,rfl⟩:=hrel;by_cases d:(k:Int)*20<B-2
   ·go_wp2
    go_round
    case rel=>exact⟨k+1,by omega,by go_num⟩
    case measure=>simp[intOf];omega
   ·go_wp2
    go_ret
    exact⟨by rw[b.out,show(B+17) / 20=(k:Int) by omega];rfl,rfl⟩
 ·have c:=iK a
  have b:Hid (fS B=0):=if_neg a;go_enter Tryz.func74,Tryz.ntmps74;go_wp2_with fail;refine(iS _ _).mono ?_;rintro e w' ⟨rfl,rfl⟩;go_wp2;go_ret;exact⟨by rw[b.out];rfl,rfl⟩
end Go.Proofs.YtmpagpeenjddgaaGreat
namespace Go.Proofs.YtmpagpeenjddgaaGreat
variable{zs:List Int}{i k:Nat}
def st(zs:List Int)(i:Nat):Bool:=zs.getD i 0 != 0 && (i == 0 || zs.getD (i-1) 0 != zs.getD i 0)
def chQ(zs:List Int)(i:Nat):Nat->Nat
 | 0=>0
 | n+1=>if chQ zs i n=n/\zs.getD (i+n) 0=zs.getD i 0 then n+1 else chQ zs i n
def stl(zs:List Int)(k:Nat):List Nat:=(List.range k).filter (st zs)
def rns(zs:List Int)(k:Nat):List (Int×Int×Int):=(stl zs k).map fun(i:Nat)=>((i:Int),(chQ zs i (k-i):Int),zs.getD i 0)
theorem gS(zs:List Int)(k:Nat):stl zs (k+1)=if st zs k then stl zs k++[k]else stl zs k:=by
 simp only[stl,List.range_succ,List.filter_append];by_cases h:st zs k<;>simp[h]
theorem aCU(h:i∈stl zs k):i<k/\st zs i=true:=by
 simpa [stl] using h
theorem aPA(zs:List Int)(i n:Nat):chQ zs i n<=n:=by
 induction n with
 | zero=>simp[chQ]
 | succ n ih=>simp only[chQ];split<;>omega
theorem wL{n:Nat}:chQ zs i n=n↔∀j,j<n->zs.getD (i+j) 0=zs.getD i 0:=by
 induction n with
 | zero=>simp[chQ]
 | succ n ih=>
  simp only[chQ];constructor
  ·intro h j c
   split at h
   ·rename_i a
    by_cases b:j=n
    ·subst b;exact a.2
    ·exact ih.1 a.1 j (by omega)
   ·have:=aPA zs i n;omega
  ·intro h
   rw[if_pos ⟨ih.2 fun j c=>h j (by omega),h n (by omega)⟩]
theorem kG:st zs i=true↔zs.getD i 0≠0/\(i=0\/zs.getD (i-1) 0≠zs.getD i 0):=by
 simp[st]
theorem aKQ(zs:List Int)(k:Nat)(h:zs.getD k 0≠0):∃i,i<=k/\st zs i=true/\stl zs (k+1)=stl zs i++[i]/\∀j,i<=j->j<=k->zs.getD j 0=zs.getD k 0:=by
 induction k with
 | zero=>
  have a:st zs 0=true:=kG.2 ⟨h,.inl rfl⟩;exact⟨0,nR _,a,by rw[gS,if_pos a],fun j c b=>by rw[show j=0 by omega]⟩
 | succ k ih=>
  by_cases a:st zs (k+1)=true
  ·exact⟨k+1,nR _,a,by rw[gS,if_pos a],fun j c b=>by rw[show j=k+1 by omega]⟩
  ·have d:zs.getD k 0=zs.getD (k+1) 0:=by
    have:=mt kG.2 a
    simp only[Nat.add_sub_cancel,not_and,not_or,Decidable.not_not]at this;exact(this h).2
   obtain⟨i,c,b,f,g⟩:=ih (by rw[d];exact h);refine⟨i,by omega,b,by rw[gS,if_neg a,f],fun j e m=>?_⟩;by_cases l:j=k+1
   ·rw[l]
   ·rw[g j e (by omega),d]
theorem rL(h:i<k)(hn:¬∀j,i<=j->j<=k->zs.getD j 0=zs.getD i 0):chQ zs i (k+1-i)=chQ zs i (k-i):=by
 rw[show k+1-i=(k-i)+1 by omega];simp only[chQ];rw[if_neg];rintro⟨a,b⟩;refine hn fun j d e=>?_;by_cases c:j=k
 ·rw[c,show k=i+(k-i) by omega];exact b
 ·have:=wL.1 a (j-i) (by omega)
  rwa [show i+(j-i)=j by omega]at this
theorem aNS(zs:List Int)(i:Nat):chQ zs i 1=1:=by simp[chQ]
theorem aKA(zs:List Int)(k:Nat)(h:zs.getD k 0=0):rns zs (k+1)=rns zs k:=by
 have d:st zs k≠true:=fun e=>(kG.1 e).1 h;simp only[rns,gS,if_neg d];refine List.map_congr_left fun i c=>?_;obtain⟨a,b⟩:=aCU c;rw[rL a fun g=>(kG.1 b).1 (by rw[<-g k (by omega) (nR _)];exact h)]
theorem aMP(zs:List Int)(k:Nat)(h:zs.getD k 0≠0)(hn:k=0\/zs.getD (k-1) 0≠zs.getD k 0):rns zs (k+1)=rns zs k++[((k:Int),1,zs.getD k 0)]:=by
 have c:st zs k=true:=kG.2 ⟨h,hn⟩;simp only[rns,gS,if_pos c,List.map_append,List.map_cons,List.map_nil];rw[show k+1-k=1 by omega,aNS];congr 1;refine List.map_congr_left fun i b=>?_;obtain⟨a,d⟩:=aCU b;rw[rL a fun g=>?_];rcases hn with rfl | hn
 ·omega
 ·exact hn (by rw[g (k-1) (by omega) (by omega),g k (by omega) (by omega)])
theorem aJZ(zs:List Int)(k:Nat)(h:zs.getD (k+1) 0≠0)(he:zs.getD k 0=zs.getD (k+1) 0):
  ∃(pre:List (Int×Int×Int)) (a b c:Int),rns zs (k+1)=pre++[(a,b,c)]/\rns zs (k+1+1)=pre++[(a,b+1,c)]/\0<=b/\b<=k+1:=by
 obtain⟨i,l,n,m,d⟩:=aKQ zs k (by rw[he];exact h);have s:st zs (k+1)≠true:=fun e=>by
  rcases(kG.1 e).2 with g | g
  ·omega
  ·exact g he
 have f:∀j,j<k+1-i->zs.getD (i+j) 0=zs.getD i 0:=fun j p=>by rw[d (i+j) (by omega) (by omega),d i (by omega) l]
 have o:chQ zs i (k+1-i)=k+1-i:=wL.2 f;have t:chQ zs i (k+1+1-i)=k+1-i+1:=by
  rw[show k+1+1-i=(k+1-i)+1 by omega];refine wL.2 fun j p=>?_;by_cases u:j=k+1-i
  ·rw[u,show i+(k+1-i)=k+1 by omega,<-he,d i (by omega) l]
  ·exact f j (by omega)
 refine⟨(stl zs i).map fun(q:Nat)=>((q:Int),(chQ zs q (k+1-q):Int),zs.getD q 0),(i:Int),((k+1-i:Nat):Int),zs.getD i 0,?_,?_,by omega,by omega⟩
 ·simp only[rns,m,List.map_append,List.map_cons,List.map_nil,o]
 ·rw[rns,gS,if_neg s,m]
  simp only[List.map_append,List.map_cons,List.map_nil,t];congr 1;refine List.map_congr_left fun q r=>?_;obtain⟨v,w⟩:=aCU r;rw[rL (show q<k+1 by omega) fun g=>?_];rcases(kG.1 n).2 with e | e
  ·omega
  ·exact e (by rw[g (i-1) (by omega) (by omega),g i (by omega) (by omega)])
theorem tU(zs:List Int)(k:Nat):(rns zs k).length<=k:=by
 simp only[rns,List.length_map,stl];exact lT (List.length_filter_le _ _) (by simp)
theorem wM{m:Nat}(h:chQ zs i m=m)(hn:zs.getD (i+m) 0≠zs.getD i 0):∀n,chQ zs i (m+n)=m
 | 0=>h
 | n+1=>by
  have ih:=wM h hn n;rw[show m+(n+1)=(m+n)+1 by omega];simp only[chQ];rw[if_neg,ih];rintro⟨b,a⟩;rw[ih]at b;exact hn (by rw[show m+n=m by omega]at a;exact a)
def srn(zs:List Int)(n k:Nat):List (Int×Int×Int):=(stl zs k).map fun(i:Nat)=>((i:Int),(chQ zs i (n-i):Int),zs.getD i 0)
theorem aMU(zs:List Int)(n:Nat):srn zs n n=rns zs n:=rfl
theorem aKP(zs:List Int)(n k:Nat)(h:st zs k=false):srn zs n (k+1)=srn zs n k:=by simp[srn,gS,h]
theorem rF(zs:List Int)(n k:Nat)(h:st zs k=true):srn zs n (k+1)=srn zs n k++[((k:Int),(chQ zs k (n-k):Int),zs.getD k 0)]:=by simp[srn,gS,h]
theorem aCR(zs:List Int)(n k:Nat):(srn zs n k).length<=k:=by
 simp only[srn,List.length_map,stl];exact lT (List.length_filter_le _ _) (by simp)
end Go.Proofs.YtmpagpeenjddgaaGreat
namespace Go.Proofs
open Go.Shelf
def Tryz.cf:Go.Shelf.Ren:=⟨fun | 53=>139 | 64=>142 | 63=>141 | 78=>152 | 79=>153 | 70=>143 | 71=>144 | 72=>145 | 73=>146 | 74=>147 | 75=>148 | 59=>149 | 76=>150 | 77=>151 | 88=>154 | 89=>155 | 90=>156 | 91=>157 | 92=>158 | 68=>89 | 96=>159 | n=>n,fun | 22=>29 | 23=>2 | 3=>3 | 51=>104 | 0=>0 | 67=>209 | 69=>49 | 4=>4 | 61=>202 | 60=>201 | 44=>89 | 5=>5 | 9=>9 | 75=>211 | 79=>215 | 83=>217 | 84=>218 | n=>n,fun | n=>n⟩
theorem Tryz.c7:Go.Proofs.SlLaysN.n53 Tryz.prog Tryz.cf:={
 mixed:=by kernel_rfl
 f53:=⟨Tryz.f139.name,by decide,Tryz.func139.trans (congrArg some (by kernel_rfl))⟩
 f59:=⟨Tryz.f149.name,by decide,Tryz.func149.trans (congrArg some (by kernel_rfl))⟩
 f63:=⟨Tryz.f141.name,by decide,Tryz.func141.trans (congrArg some (by kernel_rfl))⟩
 f64:=Tryz.func142.trans (congrArg some (by kernel_rfl))
 f68:=⟨Tryz.f89.name,by decide,Tryz.func89.trans (congrArg some (by kernel_rfl))⟩
 f70:=⟨Tryz.f143.name,by decide,Tryz.func143.trans (congrArg some (by kernel_rfl))⟩
 f71:=⟨Tryz.f144.name,by decide,Tryz.func144.trans (congrArg some (by kernel_rfl))⟩
 f72:=⟨Tryz.f145.name,by decide,Tryz.func145.trans (congrArg some (by kernel_rfl))⟩
 f73:=⟨Tryz.f146.name,by decide,Tryz.func146.trans (congrArg some (by kernel_rfl))⟩
 f74:=⟨Tryz.f147.name,by decide,Tryz.func147.trans (congrArg some (by kernel_rfl))⟩
 f75:=⟨Tryz.f148.name,by decide,Tryz.func148.trans (congrArg some (by kernel_rfl))⟩
 f76:=⟨Tryz.f150.name,by decide,Tryz.func150.trans (congrArg some (by kernel_rfl))⟩
 f77:=⟨Tryz.f151.name,by decide,Tryz.func151.trans (congrArg some (by kernel_rfl))⟩
 f78:=Tryz.func152.trans (congrArg some (by kernel_rfl))
 f79:=Tryz.func153.trans (congrArg some (by kernel_rfl))
 f88:=⟨Tryz.f154.name,by decide,Tryz.func154.trans (congrArg some (by kernel_rfl))⟩
 f89:=Tryz.func155.trans (congrArg some (by kernel_rfl))
 f90:=Tryz.func156.trans (congrArg some (by kernel_rfl))
 f91:=⟨Tryz.f157.name,by decide,Tryz.func157.trans (congrArg some (by kernel_rfl))⟩
 f92:=⟨Tryz.f158.name,by decide,Tryz.func158.trans (congrArg some (by kernel_rfl))⟩
 f96:=⟨Tryz.f159.name,by decide,Tryz.func159.trans (congrArg some (by kernel_rfl))⟩
 t0:=Tryz.underlying0
 a0:=Tryz.isAgg0
 z0:=Tryz.sizeOf0
 v0:=Tryz.zeroValue0
 t3:=Tryz.underlying3
 a3:=Tryz.isAgg3
 z3:=Tryz.sizeOf3
 v3:=Tryz.zeroValue3
 t4:=Tryz.underlying4
 a4:=Tryz.isAgg4
 z4:=Tryz.sizeOf4
 v4:=Tryz.zeroValue4
 t5:=Tryz.underlying5
 a5:=Tryz.isAgg5
 z5:=Tryz.sizeOf5
 v5:=Tryz.zeroValue5
 t9:=Tryz.underlying9
 a9:=Tryz.isAgg9
 z9:=Tryz.sizeOf9
 v9:=Tryz.zeroValue9
 t22:=Tryz.underlying29
 a22:=Tryz.isAgg29
 z22:=Tryz.sizeOf29
 v22:=Tryz.zeroValue29
 t23:=Tryz.underlying2
 a23:=Tryz.isAgg2
 z23:=Tryz.sizeOf2
 v23:=Tryz.zeroValue2
 t44:=Tryz.underlying89
 a44:=Tryz.isAgg89
 z44:=Tryz.sizeOf89
 v44:=Tryz.zeroValue89
 t51:=Tryz.underlying104
 a51:=Tryz.isAgg104
 z51:=Tryz.sizeOf104
 v51:=Tryz.zeroValue104
 t60:=Tryz.underlying201
 a60:=Tryz.isAgg201
 z60:=Tryz.sizeOf201
 v60:=Tryz.zeroValue201
 t61:=Tryz.underlying202
 a61:=Tryz.isAgg202
 z61:=Tryz.sizeOf202
 v61:=Tryz.zeroValue202
 t67:=Tryz.underlying209
 a67:=Tryz.isAgg209
 z67:=Tryz.sizeOf209
 v67:=Tryz.zeroValue209
 t69:=Tryz.underlying49
 a69:=Tryz.isAgg49
 z69:=Tryz.sizeOf49
 v69:=Tryz.zeroValue49
 t75:=Tryz.underlying211
 a75:=Tryz.isAgg211
 z75:=Tryz.sizeOf211
 v75:=Tryz.zeroValue211
 t79:=Tryz.underlying215
 a79:=Tryz.isAgg215
 z79:=Tryz.sizeOf215
 v79:=Tryz.zeroValue215
 t83:=Tryz.underlying217
 a83:=Tryz.isAgg217
 z83:=Tryz.sizeOf217
 v83:=Tryz.zeroValue217
 t84:=Tryz.underlying218
 a84:=Tryz.isAgg218
 z84:=Tryz.sizeOf218
 v84:=Tryz.zeroValue218}
end Go.Proofs
namespace Go.Proofs.YtmpagpeenjddgaaGreat
open Go.RowKit
def aHI(lo hi:Nat)(w:World)(v:Value)(rs:List (Int×Int×Int)):Prop:=
 ∃a cap,v=.slice a rs.length cap/\(0<rs.length->∃b off,a=some ⟨b,off,none⟩/\lo<=b/\b<hi/\b<w.heap.size/\(∀j,w.frozen? (aD b j)=false)/\∀i,i<rs.length->w.cell? (aD b (off+i*3))=some (iV (rs.getD i (0,0,0)).1)/\w.cell? (aD b (off+i*3+1))=some (iV (rs.getD i (0,0,0)).2.1)/\w.cell? (aD b (off+i*3+2))=some (iV (rs.getD i (0,0,0)).2.2))
theorem aHI.empty(d c:Nat)(w:World)(a:Option Addr)(b:Nat):aHI d c w (.slice a 0 b) []:=⟨a,b,rfl,fun h=>by simp at h⟩
def fE(rs:List (Int×Int×Int)):List Value:=rs.flatMap fun r=>[iV r.1,iV r.2.1,iV r.2.2]
def fK(base:Nat)(w:World)(v:Value)(rs:List (Int×Int×Int)):Prop:=w.ownsRow base 156 3 v rs.length (fE rs)
theorem nU(rs:List (Int×Int×Int)):(fE rs).length=rs.length*3:=by
 induction rs with
 | nil=>rfl
 | cons r l ih=>simp only[fE,List.flatMap_cons,lP,List.length_cons,List.length_nil]at ih |-;omega
theorem jU(rs a:List (Int×Int×Int)):fE (rs++a)=fE rs++fE a:=by simp[fE]
theorem vJ(rs:List (Int×Int×Int))(i:Nat)(h:i<rs.length):(fE rs)[i*3]?=some (iV (rs.getD i (0,0,0)).1)/\(fE rs)[i*3+1]?=some (iV (rs.getD i (0,0,0)).2.1)/\(fE rs)[i*3+2]?=some (iV (rs.getD i (0,0,0)).2.2):=by
 induction rs generalizing i with
 | nil=>simp at h
 | cons r l ih=>
  match i with
  | 0=>simp[fE]
  | i+1=>
   have:=ih i (by simpa using h)
   have e:fE (r :: l)=[iV r.1,iV r.2.1,iV r.2.2]++fE l:=by simp[fE]
   rw[e,List.getElem?_append_right (by simp;omega),List.getElem?_append_right (by simp;omega),List.getElem?_append_right (by simp;omega)];simp only[List.length_cons,List.length_nil,List.getD_cons_succ];rw[show(i+1)*3 -(0+1+1+1)=i*3 by omega,show(i+1)*3+1 -(0+1+1+1)=i*3+1 by omega,show(i+1)*3+2 -(0+1+1+1)=i*3+2 by omega];exact this
theorem fK.shape{base:Nat}{w:World}{v:Value}{rs:List (Int×Int×Int)}(h:fK base w v rs):∃a cap,v=.slice a rs.length cap:=by
 rcases h.2 with⟨b,d⟩ | ⟨g,cap,c,b,_⟩
 ·exact⟨none,0,by rw[b,d]⟩
 ·exact⟨_,_,b⟩
theorem fK.start(base:Nat)(w:World):fK base w (.slice none 0 0) []:=World.ownsRow_nil w base 156 3
theorem fK.lit(base:Nat)(w:World)(a:base<=w.heap.size)(g:Nat)(b:g=w.heap.size):fK base (w.alloc (.cells #[] 156)) (sL g 0 0 0) []:=by
 subst b;exact World.ownsRow_lit (e:=156) (size:=3) w #[] 0 a (by decide) rfl
theorem fK.own{base:Nat}{w:World}{v:Value}{rs:List (Int×Int×Int)}(h:fK base w v rs):aHI base w.heap.size w v rs:=by
 obtain⟨a,f,g⟩:=h.shape;refine⟨a,f,g,fun u=>?_⟩;have d:=h.lt;rcases h.2 with⟨_,e⟩ | ⟨b,j,l,q,r,s,t⟩
 ·omega
 ·subst q
  have c:=h.cellAt;have k:=h.frozenAt;simp only[Value.slice.injEq]at g;obtain⟨rfl,_,rfl⟩:=g;refine⟨b,0,rfl,(d b rfl).1,(d b rfl).2,(d b rfl).2,k,fun i p=>?_⟩;obtain⟨m,n,o⟩:=vJ rs i p;rw[Nat.zero_add,c (i*3) (by omega),c (i*3+1) (by omega),c (i*3+2) (by omega)];exact⟨m,n,o⟩
theorem lX(zs:List Int):chk [zs]=if inB zs.length 8 512=false then 1 else if eH zs then 2 else if eQ zs then 5 else 0:=by
 by_cases h:inB zs.length 8 512=false<;>simp[chk,eV,h]
theorem aDN(a b:List Int)(h:a.length=b.length):chk [a,b]=if chk [a]=1\/chk [b]=1 then 1 else if chk [a]=2\/chk [b]=2 then 2 else if chk [a]≠0 then chk [a]else chk [b]:=by
 rw[lX,lX,h];by_cases c:inB b.length 8 512=false
 ·simp[chk,eV,h,c]
 ·cases d:eH a<;>cases e:eH b<;>cases f:eQ a<;>cases g:eQ b<;>simp[chk,eV,h,c,d,e,f,g]
theorem aEY(a b:List Int)(h:a.length≠b.length):chk [a,b]=1:=by
 have c:((b.length:Int) !=(a.length:Int))=true:=by simp;omega
 simp[chk,eV,c]
theorem rM{zs:List Int}(h:chk [zs]=0):(8<=zs.length/\zs.length<=512)/\(∀i,0<=zs.getD i 0/\zs.getD i 0<=65535)/\zs.getD 0 0=0/\zs.getD 1 0=0:=by
 rw[lX]at h;by_cases a:inB zs.length 8 512=false
 ·rw[if_pos a]at h;omega
 ·rw[if_neg a]at h
  by_cases b:eH zs=true
  ·rw[if_pos b]at h;omega
  ·rw[if_neg b]at h
   by_cases c:eQ zs=true
   ·rw[if_pos c]at h;omega
   ·simp only[Bool.not_eq_false,inB,decide_eq_true_eq]at a
    have e:eH zs=false:=by simpa using b
    simp only[eQ,Bool.or_eq_true,bne_iff_ne,ne_eq,not_or,Decidable.not_not]at c;refine⟨by omega,fun i=>?_,c⟩;by_cases d:i<zs.length
    ·have:=List.any_eq_false.1 e zs[i] (List.getElem_mem d)
     simp only[inB,Bool.not_eq_true',decide_eq_false_iff_not,Decidable.not_not]at this;simpa [d] using this
    ·simp[d]
section
variable {P : Program} {ops : Array Oper} {Q : Exit -> Act -> World -> Prop} {md : Region.Mode} {S : World -> Prop} {L : Nat}
def aAX(md:Region.Mode)(ops:Array Oper)(L i:Nat):Bool:=((ops[L]?).map fun o=>o.after.toList.any fun e=>Region.binds md e && e.on == i).getD false
theorem aAY{i:Nat}(h:aAX md ops L i=true){listed:Array Bool}(n:i∈Region.ready md ops listed)(k:L∈Region.ready md ops listed):i=L:=by
 obtain⟨c,o,q,p⟩:=mem_ready.1 n;obtain⟨_,r,g,j⟩:=mem_ready.1 k;unfold aAX at h;simp only[g,Option.map_some,Option.getD_some,List.any_eq_true,Bool.and_eq_true,beq_iff_eq]at h;obtain⟨e,m,l,f⟩:=h;have a:=j e (by simpa using m) l;rw[f]at a;simp only[Array.getD_eq_getD_getElem?]at c a;cases d:listed[i]? with
 | none=>simp[d]at c
 | some b=>simp[d]at c a;rw[c]at a;cases a
theorem aDC{i:Nat}(G:aAX md ops L i=true){oi:Oper}{v:Value}(s:ops[i]?=some oi)(z:∀(j:Nat) (o:Oper) cs b,ops[j]?=some o->o.op≠.select cs b)
  (M:∀c a w,Q (.panic c) (a.put oi.dst v) w->Q (.panic c) a w) (fuel:Nat):
  ∀(listed:Array Bool) (a:Act) (w:World),
   (∀j oj,ops[j]?=some oj->j≠i->listed.getD j true=false->(∀e∈oj.after,Region.binds md e=true->e.on≠i)->oi.apart ops oj=true)->
   i∈Region.ready md ops listed->YieldsIf P ops S oi v a->S w->
   eB P md ops Q S L fuel (listed.setIfInBounds i true) (a.put oi.dst v) w->eB P md ops Q S L (fuel+1) listed a w:=by
 induction fuel with
 | zero=>
  intro listed a w _ f q l H;refine⟨fun h=>by simp[h]at f,fun j m=>?_⟩;by_cases d:j=i
  ·subst d
   exact q.wpOp s l ⟨fun _=>l,H⟩
  ·have T:=ready_mono m d
   simp[H.1]at T
 | succ fuel ih=>
  intro listed a w x f q l H;refine⟨fun h=>by simp[h]at f,fun j m=>?_⟩;by_cases d:j=i
  ·subst d
   exact q.wpOp s l ⟨fun _=>l,H⟩
  ·have D:j≠L:=fun e=>d (e.trans (aAY G f (e▸m)).symm)
   obtain⟨y,oj,r,F⟩:=mem_ready.1 m;have A:∀e∈oj.after,Region.binds md e=true->e.on≠i:=fun e O N B=>by
    have g:=F e O N;have p:=(mem_ready.1 f).1;rw[B]at g;simp only[Array.getD_eq_getD_getElem?]at p g;cases u:listed[i]? with
    | none=>simp[u]at p
    | some b=>simp[u]at p g;rw[p]at g;cases g
   have I:=wpOp_putIf r (x j oj r d y A) (fun cs b=>z i oi cs b s) (fun cs b=>z j oj cs b r) M q (H.2 j (ready_mono m d));refine wpOp_mono (fun E w' J=>?_) I;obtain⟨X,t,K⟩:=J;refine⟨t,ih (listed.setIfInBounds j true) E w' (fun k W R U C V=>x k W R U ?_ V) (ready_mono f (Ne.symm d)) X (t D) ?_⟩
   ·by_cases n:j=k
    ·exact n▸y
    ·rwa [getD_set_ne true n]at C
   ·rw[Array.setIfInBounds_comm _ _ d]
    exact K
theorem wH{i:Nat}{oi:Oper}(t:Nat)(v:Value){fuel:Nat}{listed:Array Bool}{a:Act}{w:World}(d:aAX md ops L i=true)(b:ops[i]?=some oi)
  (k:Region.noSelect ops=true) (g:Region.free md ops listed i=true) (hr:(Region.ready md ops listed).contains i=true)
  (e:∀c a w,Q (.panic c) (a.put oi.dst v) w->Q (.panic c) a w) (j:oi.guard=none) (ht:oi.dst=some t) (f:S w) (hy:∀w,S w->(execOp a.eval oi).run P w=.ok (.value v) w)
  (h:eB P md ops Q S L fuel (listed.setIfInBounds i true) (a.put (some t) v) w):eB P md ops Q S L (fuel+1) listed a w:=
 aDC d b (Region.noSelect_spec k) e fuel listed a w (Region.free_spec b g) (by simpa using hr) (.inl ⟨by simp[Region.wanted,j],hy⟩) f (by rw[ht];exact h)
theorem tJ(i:Nat){oi:Oper}(t:Nat)(v:Value){fuel:Nat}{listed:Array Bool}{a:Act}{w:World}(j:ops[i]?=some oi)(e:S w)(h:eB P md ops Q S L fuel (listed.setIfInBounds i true) (a.put (some t) v) w)(hy:∀w,S w->(execOp a.eval oi).run P w=.ok (.value v) w:=by(intro w' hw;(repeat (obtain⟨_,hw⟩:=hw));go_simp;try rfl))(b:aAX md ops L i=true:=by kernel_rfl)(k:Region.noSelect ops=true:=by kernel_rfl)(f:Region.free md ops listed i=true:=by kernel_rfl)(hr:(Region.ready md ops listed).contains i=true:=by kernel_rfl)(d:∀c a w,Q (.panic c) (a.put oi.dst v) w->Q (.panic c) a w:=by exact fun _ _ _ h=>h)(g:oi.guard=none:=by rfl)(ht:oi.dst=some t:=by rfl):eB P md ops Q S L (fuel+1) listed a w:=wH t v b j k f hr d g ht e hy h
end
end Go.Proofs.YtmpagpeenjddgaaGreat
namespace Go.Proofs.YtmpagpeenjddgaaGreat
open Go.RowKit
variable{ys zs:List Int}
theorem vD(zs:List Int):chk [zs]=0\/chk [zs]=1\/chk [zs]=2\/chk [zs]=5:=by
 rw[lX];by_cases a:inB zs.length 8 512=false
 ·rw[if_pos a];simp
 ·rw[if_neg a]
  cases b:eH zs<;>cases c:eQ zs<;>simp
theorem iP{a b:List Int}(h:chk [a,b]=0):a.length=b.length/\chk [a]=0/\chk [b]=0:=by
 by_cases e:a.length=b.length
 ·rw[aDN a b e]at h
  rcases vD a with c | c | c | c<;>rcases vD b with d | d | d | d<;>simp[c,d]at h |-
  exact e
 ·rw[aEY a b e]at h;omega
theorem LRd.two{w:World}{a a':Option Addr}{c c':Nat}(h:Nts w (.slice a zs.length c) zs)(b:Nts w (.slice a' ys.length c') ys)(t:TypeId)(g:Nat)(d:g=w.heap.size):
  LRd (w.alloc (.cells #[.slice a zs.length c,.slice a' ys.length c'] t)) (sL g 0 2 2) [zs,ys]:=by
 subst d;refine⟨_,0,2,rfl,fun i e=>?_⟩;match i,e with
 | 0,_=>exact⟨a,c,World.cell?_alloc_at _ _ _ _ rfl,h.alloc _⟩
 | 1,_=>exact⟨a',c',World.cell?_alloc_at _ _ _ _ rfl,b.alloc _⟩
theorem wC(h:zs.length<=1048576)(a:ys.length<=1048576)(i:Nat):(([zs,ys]:List (List Int)).getD i []).length<=1048576:=by
 match i with
 | 0=>exact h
 | 1=>exact a
 | i+2=>simp
theorem iO(w:World)(o:Obj):Bl w (w.alloc o):=(bQ _ _).alloc (nR _) _
end Go.Proofs.YtmpagpeenjddgaaGreat
namespace Go.Proofs.YtmpagpeenjddgaaGreat
open Go.RowKit Go.Shelf
variable{Bs Bt n₀:Nat}
attribute [local go_sem] Oper.semAt_some
abbrev Blk(n:Nat):={x:Nat // 2<=x/\x<n}
def isF(zs ys:List Int)(i:Nat):Bool:=zs.getD i 0 == 0 && ys.getD i 0 == 0
def frs(zs ys:List Int)(n k:Nat):List (Blk n):=((List.range k).filterMap fun i=>if h:2<=i/\i<n then(if isF zs ys i then some ⟨i,h⟩else none)else none)
theorem wV(zs ys:List Int)(n k:Nat)(h:2<=k/\k<n)(a:isF zs ys k=true):frs zs ys n (k+1)=frs zs ys n k++[⟨k,h⟩]:=by
 simp[frs,List.range_succ,h,a]
theorem sK(zs ys:List Int)(n k:Nat)(h:¬(2<=k/\k<n/\isF zs ys k=true)):frs zs ys n (k+1)=frs zs ys n k:=by
 simp only[frs,List.range_succ,List.filterMap_append,List.filterMap_cons,List.filterMap_nil];by_cases a:2<=k/\k<n
 ·have:isF zs ys k≠true:=fun e=>h ⟨a.1,a.2,e⟩
  simp[a,this]
 ·simp[a]
theorem sM(zs ys:List Int)(n:Nat){j k:Nat}(h:j<=k):frs zs ys n j <+: frs zs ys n k:=by
 induction k with
 | zero=>rw[show j=0 by omega];exact List.prefix_refl _
 | succ k ih=>
  by_cases b:j=k+1
  ·rw[b];exact List.prefix_refl _
  ·refine(ih (by omega)).trans ?_
   by_cases a:2<=k/\k<n/\isF zs ys k=true
   ·rw[wV zs ys n k ⟨a.1,a.2.1⟩ a.2.2];exact List.prefix_append _ _
   ·rw[sK zs ys n k a];exact List.prefix_refl _
theorem jV(zs ys:List Int)(n k:Nat):(frs zs ys n k).length<=k:=by
 simp only[frs];exact lT (List.length_filterMap_le _ _) (by simp)
def KpF(n₀ Bs Bt:Nat)(W W':World):Prop:=Below n₀ W W'/\W'.heap[Bs]?=W.heap[Bs]?/\W'.heap[Bt]?=W.heap[Bt]?
theorem KpF.refl(a Bs Bt:Nat)(W:World):KpF a Bs Bt W W:=⟨bQ _ _,rfl,rfl⟩
theorem KpF.trans{A B C:World}(h:KpF n₀ Bs Bt A B)(k:KpF n₀ Bs Bt B C):KpF n₀ Bs Bt A C:=⟨h.1.trans k.1,k.2.1.trans h.2.1,k.2.2.trans h.2.2⟩
theorem KpF.put{N:Nat}(h1:n₀<=N)(h2:Bs<N)(h3:Bt<N)(W:World)(l:Nat)(o a:Obj)(d:N<=l)(b:W.heap[l]?=some o)(_:o.isCells=false)(_:o.isWalk=false):KpF n₀ Bs Bt W (W.putObj l a):=by
 have c:l<W.heap.size:=(Array.getElem?_eq_some_iff.1 b).1;exact⟨(bQ n₀ W).grown (grownBy_putObj' W l a) (by omega) (fun k e=>by cases e;omega),World.putObj_heap_other (by omega),World.putObj_heap_other (by omega)⟩
theorem aIU(F:Fence)(n:Nat)(V:F.fn 133)(T:F.round=none)(hn:1<=n)(l Bs Bt u b off q d c L:Nat)(zs ys:List Int)(O:ys.length=zs.length)(hz:zs.length<=512)(Z:8<=zs.length)(U:b<u)(Y:q<u)(J G:List (Blk zs.length)->World->Prop)
  (t:∀pre (x:Blk zs.length) W,J pre W->pre.length<zs.length->YieldAt F (n-1) Tryz.prog l #[iV (x.1:Int)] W fun e W'=>
   (e=.returned (.bool true)/\J (pre++[x]) W'/\KpF u Bs Bt W W')\/(e=.returned (.bool false)/\G (pre++[x]) W'))
  (W:World) (M:W.cell? (aD Bs 0)=some (sL b off zs.length c)) (I:W.cell? (aD Bt 0)=some (sL q d ys.length L))
  (hc:∀j,j<zs.length->W.cell? (aD b (off+j))=some (iV (zs.getD j 0))) (K:∀j,j<ys.length->W.cell? (aD q (d+j))=some (iV (ys.getD j 0))) (N:J [] W):
  CallsIn F n Tryz.prog 133 #[.func (.yield l) #[] #[],pT Bs 0,pT Bt 0] W fun e W'=>(∃v,e=.returned v)/\
   ((∃xs,xs=frs zs ys zs.length zs.length/\J xs W')\/(∃pre,(∃k,k<=zs.length/\pre=frs zs ys zs.length k)/\G pre W')):=by
 refine callsIn_of_wp Tryz.func133 rfl V ?_ T;simp only[Tryz.ntmps133,List.size_toArray,List.length_cons,List.length_nil,Nat.reduceAdd,Nat.reduceSub,Array.replicate_succ,Array.replicate_zero,List.push_toArray,List.append_toArray,List.nil_append,List.cons_append];gi_wp2;gi_loopw [4] (fun i wr=>∃k:Nat,2<=k/\k<=zs.length/\i=iV k/\J (frs zs ys zs.length k) wr/\KpF u Bs Bt W wr) (fun i _=>zs.length -(intOf i).toNat)
 case atStart=>exact⟨2,nR _,by omega,rfl,N,KpF.refl _ _ _ _⟩
 case round=>
  obtain⟨k,w,hk,rfl,o,g⟩:=hrel;have d1:wr.cell? (aD Bs 0)=some (sL b off zs.length c):=(World.cell?_of_block (a:=⟨Bs,0,none⟩) g.2.1).trans M;have d2:wr.cell? (aD Bt 0)=some (sL q d ys.length L):=(World.cell?_of_block (a:=⟨Bt,0,none⟩) g.2.2).trans I;by_cases s:k<zs.length
  ·have A:wr.cell? (aD b (off+k))=some (iV (zs.getD k 0)):=(g.1.cell (p:=aD b (off+k)) U).trans (hc k s)
   have B:wr.cell? (aD q (d+k))=some (iV (ys.getD k 0)):=(g.1.cell (p:=aD q (d+k)) Y).trans (K k (by omega));have hi:(k:Int) <(zs.length:Int):=by omega
   have hi':(k:Int) <(ys.length:Int):=by omega
   have r:Hid (isF zs ys k=(zs.getD k 0 == 0 && ys.getD k 0 == 0)):=rfl;have ah:=jV zs ys zs.length k;obtain⟨x,Q⟩:∃x,Hid (zs.getD k 0=x):=⟨_,rfl⟩;obtain⟨y,z⟩:∃y,Hid (ys.getD k 0=y):=⟨_,rfl⟩;rw[Q.out]at A r;rw[z.out]at B r;clear hc K M I N;have HL:Hid (ys.length=zs.length):=O;clear O;by_cases D:x=0
   ·subst D
    by_cases f:y=0
    ·subst f
     have E:isF zs ys k=true:=by rw[r.out];rfl
     have m:Hid (frs zs ys zs.length (k+1)=frs zs ys zs.length k++[⟨k,w,s⟩]):=wV zs ys _ k ⟨w,s⟩ E;obtain⟨fn,tmps,assign,body,f,C⟩:=t _ ⟨k,w,s⟩ wr o (by omega);dsimp only at f;clear E t;gi_wp2;refine C.mono ?_;rintro e W3 (⟨rfl,P,R⟩ | ⟨rfl,H⟩)
     ·rw[<-m.out]at P
      clear d1 d2 A B f C o;gi_wp2;go_roundw
      case rel=>exact⟨k+1,by omega,by omega,by go_num,P,g.trans R⟩
      case measure=>simp[intOf];omega
     ·rw[<-m.out]at H
      clear d1 d2 A B f C o;gi_wp2;refine bodyPost_ret (results_none rfl _ _ _) rfl ?_;exact⟨⟨_,rfl⟩,.inr ⟨_,⟨k+1,by omega,rfl⟩,H⟩⟩
    ·have X:(y == 0)=false:=by simpa using f
     have m:Hid (frs zs ys zs.length (k+1)=frs zs ys zs.length k):=sK zs ys _ k fun e=>by have:=e.2.2;rw[r.out,X]at this;simp at this
     clear f t;gi_wp2;refine⟨fun _ h=>(by cases h),?_⟩;gi_wp2;go_roundw
     case rel=>exact⟨k+1,by omega,by omega,by go_num,by rw[m.out];exact o,g⟩
     case measure=>simp[intOf];omega
   ·have S:(x == 0)=false:=by simpa using D
    have m:Hid (frs zs ys zs.length (k+1)=frs zs ys zs.length k):=sK zs ys _ k fun e=>by have:=e.2.2;rw[r.out,S]at this;simp at this
    clear D t;gi_wp2;refine⟨fun _ h=>(by cases h),?_⟩;gi_wp2;go_roundw
    case rel=>exact⟨k+1,by omega,by omega,by go_num,by rw[m.out];exact o,g⟩
    case measure=>simp[intOf];omega
  ·obtain rfl:k=zs.length:=by omega
   gi_wp2
   go_end0
   exact⟨⟨_,rfl⟩,.inl ⟨_,rfl,o⟩⟩
