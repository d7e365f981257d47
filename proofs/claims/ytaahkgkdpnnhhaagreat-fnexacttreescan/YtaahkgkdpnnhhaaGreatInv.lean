import Derived.Test.YtaahkgkdpnnhhaaGreatRows
import Derived.WalkKit
import Derived.Orders
import Derived.WalkSpells
import Derived.WalkLawsBesides
import Derived.Deep.QuietTactic
import Derived.BigQuiet
import Derived.Deep.OwnRows
import Derived.Test.YtaahkgkdpnnhhaaGreatProg
import Derived.Laws.BytesString
import Derived.OrdersHeld
import Derived.Deep.RegionHeld
import Derived.Shelf.SortG.Plain
import Derived.Deep.RegionWith
import Derived.RangeFuncNested
import Derived.RangeFuncBound
import Derived.RangeFuncCalls
import Derived.RangeFuncLeaves
import Derived.Shelf.Abstract
import Derived.Shelf.RegionOpen
import Derived.OwnWalkIn
import Derived.TacticsInMore
import Derived.LoopNIn
import Derived.LoopIn
import Derived.Test.YtaahkgkdpnnhhaaGreatSh0
set_option maxHeartbeats 9999999
set_option maxRecDepth 99999
set_option linter.all false
namespace Go.Proofs.YtaahkgkdpnnhhaaGreat
open Go.RowKit
section
variable {P : Program} {ops : Array Oper} {Q : Exit → Act → World → Prop} {md : Region.Mode}
def aIS(md:Region.Mode)(ops:Array Oper)(l:Array Bool):Prop:=∀k,l.getD k false=true→∀o,ops[k]?=some o→∀e∈o.after,Region.binds md e=true→l.getD e.on false=true
theorem aFM(I:Array Bool→Act→World→Prop)
  (NQ:∀l a w,l.size=ops.size→aIS md ops l→I l a w→∀i o,ops[i]?=some o→l.getD i true=false→l.getD i false=false→(∀e∈o.after,Region.binds md e=true→l.getD e.on false=true)→wpOp P ops Q i (fun a' w'=>I (l.setIfInBounds i true) a' w') a w)
  (Mc:∀l a w,l.size=ops.size→I l a w→(∀i,i<ops.size→l.getD i false=true)→Q .normal a w)
  (Rs:∀l:Array Bool,l.size=ops.size→Region.ready md ops l=[]→∀i,i<ops.size→l.getD i false=true):
  ∀(fuel:Nat) (l:Array Bool) (a:Act) (w:World),l.size=ops.size→aIS md ops l→l.toList.count false=fuel→I l a w→wpAny P md ops Q fuel l a w:=by
 intro fuel;induction fuel with
 | zero=>
  intro l a w hs _ hc hI;have ay:∀i,i<ops.size→l.getD i false=true:=fun i hi=>by
   have fe:i<l.size:=by omega
   cases hb:l[i]with
   | true=>simp[fe,hb]
   | false=>
    exfalso
    have hm:false∈l.toList:=by rw[←hb];exact Array.getElem_mem_toList fe
    have:=List.count_pos_iff.2 hm
    omega
  have hr:Region.ready md ops l=[]:=by
   cases nn:Region.ready md ops l with
   | nil=>rfl
   | cons j r=>
    exfalso
    obtain⟨h1,o,ho,_⟩:=mem_ready.1 (show j∈Region.ready md ops l by rw[nn];simp);have hj:j<ops.size:=(Array.getElem?_eq_some_iff.1 ho).1;have h2:=ay j hj;have yg:j<l.size:=by omega
    simp[yg]at h1 h2
    rw[h1]at h2;cases h2
  exact⟨hr,Mc l a w hs hI ay⟩
 | succ fuel ih=>
  intro l a w hs au hc hI;refine⟨fun hr=>Mc l a w hs hI (Rs l hs hr),fun i hi=>?_⟩;obtain⟨h1,o,ho,hd⟩:=mem_ready.1 hi;have YF:i<ops.size:=(Array.getElem?_eq_some_iff.1 ho).1;have fe:i<l.size:=by omega
  have ul:l[i]=false:=by simpa [fe] using h1
  have N6:l.getD i false=false:=by simp[fe,ul]
  refine wpOp_mono (fun a' w' VT=>ih (l.setIfInBounds i true) a' w' (by simpa using hs) ?_ ?_ VT) (NQ l a w hs au hI i o ho h1 N6 hd)
  ·intro k hk o' GC e he hb
   by_cases lq:i=k
   ·subst lq
    obtain rfl:=Option.some.inj (ho.symm.trans GC);exact getD_set_true (hd e he hb)
   ·rw[getD_set_ne false lq]at hk
    exact getD_set_true (au k hk o' GC e he hb)
  ·have ai:i<l.toList.length:=by simpa using fe
   rw[Array.toList_setIfInBounds,List.count_set ai];have:l.toList[i]=false:=by simpa using ul
   have jg:Array.count false l=fuel+1:=by simpa using hc
   simp[this,jg]
theorem aAK(ai:∀(k:Nat) (o:Oper),ops[k]?=some o→∀e∈o.after,e.on<k)(l:Array Bool)(hs:l.size=ops.size)(hr:Region.ready md ops l=[]):∀i,i<ops.size→l.getD i false=true:=by
 intro i;induction i using Nat.strongRecOn with
 | ind i ih=>
  intro hi;have fe:i<l.size:=by omega
  cases hb:l[i]with
  | true=>simp[fe,hb]
  | false=>
   exfalso
   have:i∈Region.ready md ops l:=mem_ready.2 ⟨by simp[fe,hb],ops[i],Array.getElem?_eq_getElem hi,fun e he _=>by
    have:=ai i _ (Array.getElem?_eq_getElem hi) e he
    exact ih e.on this (by omega)⟩
   rw[hr]at this;cases this
theorem aFV(h:(ops.toList.zipIdx.all fun p=>p.1.after.toList.all fun e=>decide (e.on<p.2))=true)(k:Nat)(o:Oper)(ho:ops[k]?=some o):∀e∈o.after,e.on<k:=fun e he=>by
 have hm:(o,k)∈ops.toList.zipIdx:=by
  rw[List.mem_zipIdx_iff_getElem?];simpa using ho
 have h1:=List.all_eq_true.1 h _ hm;exact of_decide_eq_true (List.all_eq_true.1 h1 e (by simpa using he))
theorem dW{i:Nat}{o:Oper}{K:Act→World→Prop}{a:Act}{w:World}(ho:ops[i]?=some o)(hg:o.guard=none)(h:o.wp P a w K Q):wpOp P ops Q i K a w:=by
 unfold wpOp;simp only[ho];rw[if_pos (by simp[Region.wanted,hg])];exact .inl h
end
end Go.Proofs.YtaahkgkdpnnhhaaGreat
namespace Go.Proofs.YtaahkgkdpnnhhaaGreat
open Go.RowKit
structure Upd(lo hi:Nat)(w w':World):Prop where
 os:w'.os=w.os
 tape:w'.tape=w.tape
 output:w'.output=w.output
 size:w.heap.size≤w'.heap.size
 block:∀k,k<w.heap.size→(k<lo∨hi≤k)→w'.heap[k]?=w.heap[k]?
theorem Upd.refl(lo hi:Nat)(w:World):Upd lo hi w w:=⟨rfl,rfl,rfl,nR _,fun _ _ _=>rfl⟩
theorem Upd.trans{lo hi:Nat}{a b c:World}(h:Upd lo hi a b)(k:Upd lo hi b c):Upd lo hi a c:=
 ⟨k.os.trans h.os,k.tape.trans h.tape,k.output.trans h.output,lT h.size k.size,fun i ak hn=>(k.block i (lL ak h.size) hn).trans (h.block i ak hn)⟩
theorem Upd.below{lo hi B:Nat}{w w':World}(h:Upd lo hi w w')(h1:B≤lo)(h2:B≤w.heap.size):Below B w w':=
 ⟨h.os,h.tape,h.output,h.size,fun k hk=>h.block k (by omega) (by omega)⟩
theorem Upd.setCell{lo hi:Nat}{a w:World}(h:Upd lo hi a w){p:Addr}(h1:lo≤p.block)(h2:p.block<hi)(u:Value):Upd lo hi a (w.setCell p u):=
 h.trans ⟨rfl,rfl,rfl,by simp,fun k _ hn=>Below.heap_setCell w p u k (by omega)⟩
def inB(v lo hi:Int):Bool:=decide (lo≤v∧v≤hi)
theorem nL{v lo hi:Int}(h:lo≤v∧v≤hi):inB v lo hi=true:=by simp[inB,h]
theorem hZ{v lo hi:Int}(h:¬(lo≤v∧v≤hi)):inB v lo hi=false:=by simp only[inB];exact decide_eq_false h
theorem eU(v lo hi:Int)(w:World):
  Calls Tryz.prog 55 #[.int .i64 v,.int .i64 lo,.int .i64 hi] w fun e w'=>e=.returned (.bool (inB v lo hi))∧w=w':=by
 by_cases h1:lo≤v
 ·by_cases h2:v≤hi
  ·rw[nL ⟨h1,h2⟩]
   go_enter Tryz.func55,Tryz.ntmps55
   go_wp2
   go_ret
   exact⟨rfl,rfl⟩
  ·rw[hZ (by omega)]
   go_enter Tryz.func55,Tryz.ntmps55
   go_wp2
   go_ret
   exact⟨rfl,rfl⟩
 ·rw[hZ (by omega)]
  go_enter Tryz.func55,Tryz.ntmps55
  go_wp2
  go_ret
  exact⟨rfl,rfl⟩
theorem iJ(v:Int)(w:World):
  Calls Tryz.prog 49 #[.int .i64 v] w fun e w'=>e=.returned (.bool (inB v 8 512))∧w=w':=by
 by_cases h1:8≤v
 ·by_cases h2:v≤512
  ·rw[nL ⟨h1,h2⟩]
   go_enter Tryz.func49,Tryz.ntmps49
   go_wp2
   go_ret
   exact⟨rfl,rfl⟩
  ·rw[hZ (by omega)]
   go_enter Tryz.func49,Tryz.ntmps49
   go_wp2
   go_ret
   exact⟨rfl,rfl⟩
 ·rw[hZ (by omega)]
  go_enter Tryz.func49,Tryz.ntmps49
  go_wp2
  go_ret
  exact⟨rfl,rfl⟩
def dgt(x:Int):ByteArray:=ByteArray.empty.push (UInt8.ofNat x.toNat)
theorem aGI(x:Int):(dgt x).size=1:=by simp[dgt,ByteArray.size_push]
theorem aJL(w:World)(x:Int):(convert 105 9 (.slice (some ⟨w.heap.size,0,none⟩) 1 1)).run Tryz.prog (w.alloc (.cells #[.int .u8 x] 5))=.ok (.string (dgt x)) (w.alloc (.cells #[.int .u8 x] 5)):=by
 rw[run_convert_bytes_string _ 105 9 5 _ _ _ Tryz.underlying105 Tryz.underlying5 Tryz.underlying9];rw[run_bytesToString _ _ 1 1 [x] ?_]
 ·rfl
 ·refine run_loadCells_list _ _ ([x].map (Value.int .u8)) ?_
  intro j v hj;match j,hj with
  | 0,hj=>simp at hj;subst hj;simp[Addr.add,World.cell?_alloc_at]
def zI:Nat→Nat→ByteArray→ByteArray
 | 0,_,out=>out
 | n+1,k,out=>if 0<k then zI n (k / 10) (dgt (48+(k:Int) % 10)++out)else out
theorem vG:∀(n m k:Nat) (out:ByteArray),k≤n→k≤m→zI n k out=zI m k out
 | 0,m,k,out,h,_=>by
  obtain rfl:k=0:=by omega
  cases m with
  | zero=>rfl
  | succ m=>unfold zI;rw[if_neg (by omega)]
 | n+1,m,k,out,h,h2=>by
  cases m with
  | zero=>
   obtain rfl:k=0:=by omega
   unfold zI;rw[if_neg (by omega)]
  | succ m=>
   unfold zI;by_cases q:0<k
   ·rw[if_pos q,if_pos q];exact vG n m (k / 10) _ (by omega) (by omega)
   ·rw[if_neg q,if_neg q]
def mkD(k:Nat)(out:ByteArray):ByteArray:=zI k k out
theorem aHS{k:Nat}(h:0<k)(out:ByteArray):mkD k out=mkD (k / 10) (dgt (48+(k:Int) % 10)++out):=by
 unfold mkD;obtain⟨n,rfl⟩:∃n,k=n+1:=⟨k-1,by omega⟩;rw[zI,if_pos h];exact vG _ _ _ _ (by omega) (by omega)
theorem aKA(out:ByteArray):mkD 0 out=out:=rfl
def mkT(k:Nat):ByteArray:={data:=#[109]}++mkD k {data:=#[]}
theorem wS(k:Nat)(w:World)(hk:1≤k)(uh:k≤1000000000):
  Calls Tryz.prog 38 #[.int .i64 k] w fun e w'=>e=.returned (.string (mkT k))∧Bl w w':=by
 go_enter Tryz.func38,Tryz.ntmps38
 go_wp2
 go_loopw [0,3] (fun kk out wr=>∃(j:Nat) (t:ByteArray),kk=.int .i64 j∧out=.string t∧t.size+j≤1000000000∧Hid (mkD j t=mkD k {data:=#[]})∧Bl w wr) (fun kk _ _=>(intOf kk).toNat)
 case atStart=>exact⟨k,_,rfl,rfl,by rw[show(ByteArray.mk #[]).size=0 from rfl];omega,rfl,bQ _ _⟩
 case round=>
  obtain⟨j,t,rfl,rfl,hj,HM,hb⟩:=hrel;by_cases h0:0<j
  ·have pq:=aJL wr (48+(j:Int) % 10)
   have iu:=aGI (48+(j:Int) % 10);go_wp2;go_roundw
   case rel=>
    refine⟨j / 10,_,by go_num,rfl,?_,?_,hb.alloc hb.size _⟩
    ·rw[ByteArray.size_append,iu];omega
    ·exact(aHS h0 t).symm.trans HM.out
   case measure=>simp[intOf];omega
  ·have AN:j=0:=by omega
   subst AN;go_wp2;go_ret;have:=HM.out;rw[aKA]at this;exact⟨by rw[mkT,←this];rfl,hb⟩
theorem eF(x:Int)(w:World)(hk:1≤x)(uh:x≤1000000000):
  Calls Tryz.prog 38 #[.int .i64 x] w fun e w'=>e=.returned (.string (mkT x.toNat))∧Bl w w':=by
 have:=wS x.toNat w (by omega) (by omega)
 rw[show((x.toNat:Nat):Int)=x by omega]at this;exact this
theorem rR:(Tryz.prog.info? 2).map (fun i=>(i.zero,i.size,i.bytes))=some (some (.int .i64 0),1,8):=by kernel_rfl
def dD(zs:List Int):Array Value:=(zs.map (Value.int .i64)).toArray
structure Nts(w:World)(v:Value)(zs:List Int):Prop where
 small:∀i,-9223372036854775808≤zs.getD i 0∧zs.getD i 0≤9223372036854775807
 shape:∃a cap,v=.slice a zs.length cap∧(0<zs.length→∃b off,a=some ⟨b,off,none⟩∧∀i,i<zs.length→w.cell? ⟨b,off+i,none⟩=some (.int .i64 (zs.getD i 0)))
theorem Nts.kept{w w':World}{v:Value}{zs:List Int}(h:Nts w v zs)(k:∀b o,b<w.heap.size→w'.cell? ⟨b,o,none⟩=w.cell? ⟨b,o,none⟩):Nts w' v zs:=by
 obtain⟨a,cap,hv,hc⟩:=h.shape;refine⟨h.small,a,cap,hv,fun hp=>?_⟩;obtain⟨b,off,ha,aa⟩:=hc hp;exact⟨b,off,ha,fun i hi=>(k b _ (World.block_lt_of_cell? _ _ (aa i hi))).trans (aa i hi)⟩
theorem Nts.below{w w':World}{v:Value}{zs:List Int}(h:Nts w v zs)(k:Bl w w'):Nts w' v zs:=
 h.kept fun b o hb=>k.cell (p:=⟨b,o,none⟩) hb
theorem Nts.alloc{w:World}{v:Value}{zs:List Int}(h:Nts w v zs)(o:Obj):Nts (w.alloc o) v zs:=
 h.kept fun _ _ hb=>World.cell?_alloc_past _ _ _ hb
structure cF(lo hi:Nat)(w:World)(v:Value)(zs:List Int):Prop where
 small:∀i,-9223372036854775808≤zs.getD i 0∧zs.getD i 0≤9223372036854775807
 shape:∃a cap,v=.slice a zs.length cap∧(0<zs.length→∃b off,a=some ⟨b,off,none⟩∧lo≤b∧b<hi∧b<w.heap.size∧∀i,i<zs.length→w.cell? ⟨b,off+i,none⟩=some (.int .i64 (zs.getD i 0))∧w.frozen? ⟨b,off+i,none⟩=false)
theorem cF.nts{lo hi:Nat}{w:World}{v:Value}{zs:List Int}(h:cF lo hi w v zs):Nts w v zs:=by
 obtain⟨a,cap,hv,hc⟩:=h.shape;refine⟨h.small,a,cap,hv,fun hp=>?_⟩;obtain⟨b,off,ha,_,_,_,aa⟩:=hc hp;exact⟨b,off,ha,fun i hi=>(aa i hi).1⟩
theorem cF.kept{lo hi:Nat}{w w':World}{v:Value}{zs:List Int}(h:cF lo hi w v zs)(hs:w.heap.size≤w'.heap.size)(k:∀b,lo≤b→b<hi→b<w.heap.size→w'.heap[b]?=w.heap[b]?):cF lo hi w' v zs:=by
 obtain⟨a,cap,hv,hc⟩:=h.shape;refine⟨h.small,a,cap,hv,fun hp=>?_⟩;obtain⟨b,off,ha,h1,h2,h3,aa⟩:=hc hp;have e:=k b h1 h2 h3;refine⟨b,off,ha,h1,h2,by omega,fun i hi=>?_⟩;rw[World.cell?_of_block (w:=w) (w':=w') (a:=⟨b,off+i,none⟩) e,World.frozen?_of_block (w:=w) (w':=w') (a:=⟨b,off+i,none⟩) e];exact aa i hi
theorem cF.upd{lo hi lo' ak:Nat}{w w':World}{v:Value}{zs:List Int}(h:cF lo hi w v zs)(k:Upd lo' ak w w')(hd:hi≤lo'∨ak≤lo):cF lo hi w' v zs:=
 h.kept k.size fun b h1 h2 h3=>k.block b h3 (by omega)
theorem cF.below{lo hi:Nat}{w w':World}{v:Value}{zs:List Int}(h:cF lo hi w v zs)(k:Bl w w'):cF lo hi w' v zs:=
 h.kept k.size fun b _ _ h3=>k.block b h3
theorem cF.empty(lo hi:Nat)(w:World)(a:Option Addr)(cap:Nat):cF lo hi w (.slice a 0 cap) []:=
 ⟨fun i=>by simp,a,cap,rfl,fun h=>by simp at h⟩
theorem cF.of_row{w:World}{base:Nat}{v:Value}{zs:List Int}(h:w.ownsRow base 2 1 v zs.length (zs.map (Value.int .i64)))(hz:∀i,-9223372036854775808≤zs.getD i 0∧zs.getD i 0≤9223372036854775807):cF base w.heap.size w v zs:=by
 rcases h.2 with⟨hv,hn⟩ | ⟨g,cap,cur,hv,hb,hg,CW,Ct,iN,htake⟩
 ·refine⟨hz,none,0,by rw[hv,hn],fun hp=>by omega⟩
 ·subst hv
  have ai:g<w.heap.size:=by
   by_cases hh:g<w.heap.size
   ·exact hh
   ·simp[show w.heap.size≤g by omega]at hg
  refine⟨hz,_,_,rfl,fun hp=>⟨g,0,rfl,hb,ai,ai,fun i hi=>?_⟩⟩;rw[Nat.zero_add];refine⟨?_,h.frozenAt i⟩;rw[h.cellAt i (by omega)];simp[hi]
def dE(base:Nat)(w:World)(v:Value)(zs:List Int):Prop:=w.ownsRow base 2 1 v zs.length (zs.map (Value.int .i64))
theorem dE.own{base:Nat}{w:World}{v:Value}{zs:List Int}(h:dE base w v zs)(hz:∀i,-9223372036854775808≤zs.getD i 0∧zs.getD i 0≤9223372036854775807):cF base w.heap.size w v zs:=cF.of_row h hz
theorem dE.shape{base:Nat}{w:World}{v:Value}{zs:List Int}(h:dE base w v zs):∃a cap,v=.slice a zs.length cap:=by
 rcases h.2 with⟨hv,hn⟩ | ⟨g,cap,cur,hv,_⟩
 ·exact⟨none,0,by rw[hv,hn]⟩
 ·exact⟨_,_,hv⟩
theorem dE.start(base:Nat)(w:World):dE base w (.slice none 0 0) []:=World.ownsRow_nil w base 2 1
theorem dE.lit(base:Nat)(w:World)(hb:base≤w.heap.size)(g:Nat)(hg:g=w.heap.size):dE base (w.alloc (.cells #[] 2)) (.slice (some ⟨g,0,none⟩) 0 0) []:=by
 subst hg;exact World.ownsRow_lit (e:=2) (size:=1) w #[] 0 hb (by decide) rfl
theorem kK{ops:Array Oper}{rest:List Oper}{o:Oper}{a:Act}{Q:Exit→Act→World→Prop}(ik:o.guard=none)(s x:Operand)
  (ho:o.op=.call {callee:=.builtin .append,args:=#[s,x],argTypes:=#[24,24]})
  {base:Nat} {w0:World} {v:Value} {zs:List Int} (c:Int) (ap:dE base w0 v zs) (hs:a.eval s=v) (hx:a.eval x=.slice (some ⟨w0.heap.size,0,none⟩) 1 1)
  (ah:zs.length<8589934592) (hb:base≤w0.heap.size)
  (h:∀v' w',dE base w' v' (zs++[c])→Below base w0 w'→w0.heap.size≤w'.heap.size→(w0.alloc (.cells #[.int .i64 c] 2)).grownBy w' v.ownBlock→wpList Tryz.prog ops Q rest (a.put o.dst v') w'):
  wpList Tryz.prog ops Q (o :: rest) a (w0.alloc (.cells #[.int .i64 c] 2)):=by
 obtain⟨i0,hi,jh,gh,Af⟩:=info_parts rR;refine wpList_append_own _ ik s x 24 ho base 2 i0 (.int .i64 0) 1 8 Tryz.underlying24 hi jh gh Af rfl (by decide) v _ _ hs (ap.alloc _) ⟨w0.heap.size,0,none⟩ 1 1 [.int .i64 c] hx rfl ?_ ?_ ?_ ?_ ?_ ?_
 ·intro j u hj
  match j,hj with
  | 0,hj=>simp at hj;subst hj;simp[Addr.add,World.cell?_alloc_at]
 ·intro u hu;simp at hu;subst hu;rfl
 ·unfold maxLen;omega
 ·omega
 ·simp;omega
 ·intro v' w' h1 h2 _
  have ao:Below base w0 w':=((bQ base w0).alloc hb _).grown h2 (by simp;omega) (fun k hk=>(ap.lt k hk).1);refine h v' w' ?_ ao (by have:=h2.size;simp at this;omega) h2;unfold dE;simpa using h1
theorem cF.stored{lo hi:Nat}{w:World}{b off n cap:Nat}{zs:List Int}(h:cF lo hi w (.slice (some ⟨b,off,none⟩) n cap) zs)(j:Nat)(hj:j<n)(x:Int)(hx:-9223372036854775808≤x∧x≤9223372036854775807):
  cF lo hi (w.setCell ⟨b,off+j,none⟩ (.int .i64 x)) (.slice (some ⟨b,off,none⟩) n cap) (zs.set j x)∧Upd lo hi w (w.setCell ⟨b,off+j,none⟩ (.int .i64 x)):=by
 obtain⟨a,cap',hv,hc⟩:=h.shape;simp only[Value.slice.injEq]at hv;obtain⟨rfl,rfl,rfl⟩:=hv;obtain⟨b',off',ha,h1,h2,h3,aa⟩:=hc (by omega);simp only[sJ,Addr.mk.injEq,and_true]at ha;obtain⟨rfl,rfl⟩:=ha;refine⟨⟨fun i=>?_,_,_,by rw[List.length_set],fun _=>⟨b,off,rfl,h1,h2,by simpa using h3,fun i hi=>?_⟩⟩,(Upd.refl _ _ _).setCell h1 h2 _⟩
 ·have hs:=h.small i
  simp only[gD]at hs ⊢;rw[List.getElem?_set];by_cases g8:j=i
  ·rw[if_pos g8,if_pos (by omega)];simpa using hx
  ·rw[if_neg g8];exact hs
 ·rw[List.length_set]at hi
  have ON:=aa i hi;refine⟨?_,by simpa using ON.2⟩;simp only[gD];rw[List.getElem?_set];by_cases g8:j=i
  ·subst g8
   rw[if_pos rfl,if_pos hi,World.cell?_setCell_same _ _ _ ON.1];rfl
  ·rw[if_neg g8,World.cell?_setCell_other _ _ _ _ (by intro hh;simp only[Addr.mk.injEq]at hh;omega),ON.1];rfl
def LRd(w:World)(v:Value)(zss:List (List Int)):Prop:=
 ∃b off cap,v=.slice (some ⟨b,off,none⟩) zss.length cap∧∀i,i<zss.length→∃a c,w.cell? ⟨b,off+i,none⟩=some (.slice a (zss.getD i []).length c)∧Nts w (.slice a (zss.getD i []).length c) (zss.getD i [])
def fP(n:Nat)(zs:List Int):Bool:=!(inB zs.length 8 512) || (zs.length:Int) !=(n:Int)
def eQ(zs:List Int):Bool:=zs.any fun z=>!(inB z 0 65535)
def fM(zs:List Int):Bool:=zs.getD 0 0 != 0 || zs.getD 1 0 != 0
def chk(zss:List (List Int)):Int:=if zss.any (fP (zss.getD 0 []).length)then 1 else if zss.any eQ then 2 else if zss.any fM then 5 else 0
theorem vV{α:Type}{p:α→Bool}{l:List α}{d:α}{i:Nat}(hi:i<l.length)(h:p (l.getD i d)=true):l.any p=true:=by
 refine List.any_eq_true.2 ⟨l.getD i d,?_,h⟩;simp[hi]
theorem oK{α:Type}{p:α→Bool}{l:List α}(d:α)(h:∀i,i<l.length→p (l.getD i d)=false):l.any p=false:=by
 rw[List.any_eq_false];intro x hx;obtain⟨i,hi,rfl⟩:=List.mem_iff_getElem.1 hx;have:=h i hi;simpa [hi] using this
theorem pX(v:Value)(zss:List (List Int))(w:World)(hv:LRd w v zss)(h0:0<zss.length)(hn:zss.length≤1048576)(hl:∀i,(zss.getD i []).length≤1048576):
  Calls Tryz.prog 154 #[v] w fun e w'=>e=.returned (.int .i64 (chk zss))∧w=w':=by
 obtain⟨b,off,cap,rfl,aa⟩:=hv;obtain⟨a0,c0,e0,n0⟩:=aa 0 h0;rw[Nat.add_zero]at e0;obtain⟨z0,HZ⟩:∃z0,Hid (zss.getD 0 []=z0):=⟨_,rfl⟩;rw[HZ.out]at e0;have pf:z0.length≤1048576:=by rw[←HZ.out];exact hl 0
 go_enter Tryz.func154,Tryz.ntmps154
 go_wp2
 go_loop [13] (fun i=>∃k:Nat,k≤zss.length∧i=.int .i64 k∧∀j,j<k→fP z0.length (zss.getD j [])=false) (fun i=>zss.length -(intOf i).toNat)
 case atStart=>exact⟨0,Nat.zero_le _,rfl,fun j hj=>by omega⟩
 case round=>
  obtain⟨k,hk,rfl,ay⟩:=hrel;by_cases ai:k<zss.length
  ·obtain⟨a,c,e1,n1⟩:=aa k ai
   have gx:=hl k;have HB:Hid (fP z0.length (zss.getD k [])=(!(inB (zss.getD k []).length 8 512) || ((zss.getD k []).length:Int) !=(z0.length:Int))):=rfl;have HE:Hid (fP z0.length (zss.getD k [])=true→chk zss=1):=fun h=>if_pos (vV ai (by rw[HZ.out];exact h));generalize Ay:zss.getD k []=zk at *;clear aa;go_wp2_with fail;refine(eU _ _ _ _).mono ?_;rintro e w' ⟨rfl,rfl⟩;by_cases hb:inB zk.length 8 512=true
   ·rw[hb]
    by_cases he:zk.length=z0.length
    ·have av:((zk.length:Int) !=(z0.length:Int))=false:=by simp[he]
     have d9:fP z0.length zk=false:=by rw[HB.out,hb,av];rfl
     clear hb he;go_wp2;go_round
     case rel=>
      refine⟨k+1,by omega,by go_num,fun j hj=>?_⟩;by_cases hjk:j=k
      ·rw[hjk,Ay];exact d9
      ·exact ay j (by omega)
     case measure=>simp[intOf];omega
    ·have av:((zk.length:Int) !=(z0.length:Int))=true:=by simp;omega
     have d9:fP z0.length zk=true:=by rw[HB.out,hb,av];rfl
     have HC:Hid (chk zss=1):=HE.out d9;clear hb he;go_wp2;go_ret;exact⟨by rw[HC.out];rfl,rfl⟩
   ·have xi:inB zk.length 8 512=false:=by simpa using hb
    have d9:fP z0.length zk=true:=by rw[HB.out,xi];rfl
    have HC:Hid (chk zss=1):=HE.out d9;rw[xi];clear hb xi;go_wp2;go_ret;exact⟨by rw[HC.out];rfl,rfl⟩
  ·have hA:zss.any (fP z0.length)=false:=oK [] fun i hi=>ay i (by omega)
   have HC:Hid (chk zss=if zss.any eQ then 2 else if zss.any fM then 5 else 0):=by unfold chk;rw[HZ.out,hA];rfl
   have ah:∀i,i<zss.length→8≤(zss.getD i []).length:=fun i hi=>by
    have:=ay i (by omega)
    simp only[fP,Bool.or_eq_false_iff,Bool.not_eq_false',inB,decide_eq_true_eq]at this;omega
   clear hA ay e0 n0;go_wp2;go_loop [33] (fun i=>∃k:Nat,k≤zss.length∧i=.int .i64 k∧∀j,j<k→eQ (zss.getD j [])=false) (fun i=>zss.length -(intOf i).toNat)
   case atStart=>exact⟨0,Nat.zero_le _,rfl,fun j hj=>by omega⟩
   case round=>
    obtain⟨k,hk,rfl,ay⟩:=hrel;by_cases ai:k<zss.length
    ·obtain⟨a,c,e1,n1⟩:=aa k ai
     have gx:=hl k;have RN:=ah k ai;have HE:Hid (eQ (zss.getD k [])=true→chk zss=2):=fun h=>by rw[HC.out];exact if_pos (vV ai h)
     generalize Ay:zss.getD k []=zk at *;obtain⟨a1,c1,Aw,zc⟩:=n1.shape;simp only[Value.slice.injEq,true_and]at Aw;obtain⟨rfl,rfl⟩:=Aw;obtain⟨b1,o1,rfl,ed⟩:=zc (by omega);clear aa n1 zc;go_wp2;go_loop [39] (fun i=>∃q:Nat,q≤zk.length∧i=.int .i64 q∧∀j,j<q→inB (zk.getD j 0) 0 65535=true) (fun i=>zk.length -(intOf i).toNat)
     case atStart=>exact⟨0,Nat.zero_le _,rfl,fun j hj=>by omega⟩
     case round=>
      obtain⟨q,hq,rfl,jm⟩:=hrel;by_cases hlq:q<zk.length
      ·have g1:=ed q hlq
       have HP:Hid (inB (zk.getD q 0) 0 65535=false→eQ zk=true):=fun h=>vV (d:=0) hlq (by rw[h];rfl);generalize hzq:zk.getD q 0=z at *;clear ed;go_wp2_with fail;refine(eU _ _ _ _).mono ?_;rintro e w' ⟨rfl,rfl⟩;by_cases hb:inB z 0 65535=true
       ·rw[hb]
        go_wp2
        go_round
        case rel=>
         refine⟨q+1,by omega,by go_num,fun j hj=>?_⟩;by_cases hjq:j=q
         ·rw[hjq,hzq];exact hb
         ·exact jm j (by omega)
        case measure=>simp[intOf];omega
       ·have xi:inB z 0 65535=false:=by simpa using hb
        have CA:Hid (chk zss=2):=HE.out (HP.out xi);rw[xi];clear hb xi;go_wp2;go_ret;exact⟨by rw[CA.out];rfl,rfl⟩
      ·have kf:eQ zk=false:=oK 0 fun i hi=>by rw[jm i (by omega)];rfl
       clear jm ed;go_wp2;go_round
       case rel=>
        refine⟨k+1,by omega,by go_num,fun j hj=>?_⟩;by_cases hjk:j=k
        ·rw[hjk,Ay];exact kf
        ·exact ay j (by omega)
       case measure=>simp[intOf];omega
    ·have hA:zss.any eQ=false:=oK [] fun i hi=>ay i (by omega)
     have SN:Hid (chk zss=if zss.any fM then 5 else 0):=by rw[HC.out,hA];rfl
     clear hA ay;go_wp2;go_loop [50] (fun i=>∃k:Nat,k≤zss.length∧i=.int .i64 k∧∀j,j<k→fM (zss.getD j [])=false) (fun i=>zss.length -(intOf i).toNat)
     case atStart=>exact⟨0,Nat.zero_le _,rfl,fun j hj=>by omega⟩
     case round=>
      obtain⟨k,hk,rfl,ay⟩:=hrel;by_cases ai:k<zss.length
      ·obtain⟨a,c,e1,n1⟩:=aa k ai
       have gx:=hl k;have RN:=ah k ai;have HE:Hid (fM (zss.getD k [])=true→chk zss=5):=fun h=>by rw[SN.out];exact if_pos (vV ai h)
       have HB:Hid (fM (zss.getD k [])=((zss.getD k []).getD 0 0 != 0 || (zss.getD k []).getD 1 0 != 0)):=rfl;generalize Ay:zss.getD k []=zk at *;obtain⟨a1,c1,Aw,zc⟩:=n1.shape;simp only[Value.slice.injEq,true_and]at Aw;obtain⟨rfl,rfl⟩:=Aw;obtain⟨b1,o1,rfl,ed⟩:=zc (by omega);have g0:=ed 0 (by omega);have g1:=ed 1 (by omega);rw[Nat.add_zero]at g0;generalize zk.getD 0 0=x at *;generalize zk.getD 1 0=y at *;have ee:(1:Int) <(zk.length:Int):=by omega
       have pf:0<zk.length:=by omega
       clear aa n1 ed zc;by_cases hx:x=0
       ·by_cases hy:y=0
        ·subst hx hy
         have kf:fM zk=false:=by rw[HB.out];rfl
         go_wp2
         go_round
         case rel=>
          refine⟨k+1,by omega,by go_num,fun j hj=>?_⟩;by_cases hjk:j=k
          ·rw[hjk,Ay];exact kf
          ·exact ay j (by omega)
         case measure=>simp[intOf];omega
        ·have pj:(y != 0)=true:=by simpa using hy
         have CA:Hid (chk zss=5):=HE.out (by rw[HB.out,pj];simp);subst hx;clear hy;go_wp2;go_ret;exact⟨by rw[CA.out];rfl,rfl⟩
       ·have bq:(x != 0)=true:=by simpa using hx
        have CA:Hid (chk zss=5):=HE.out (by rw[HB.out,bq];rfl);clear hx;go_wp2;go_ret;exact⟨by rw[CA.out];rfl,rfl⟩
      ·have hA:zss.any fM=false:=oK [] fun i hi=>ay i (by omega)
       have CA:Hid (chk zss=0):=by rw[SN.out,hA];rfl
       clear hA ay aa;go_wp2;go_ret;exact⟨by rw[CA.out];rfl,rfl⟩
section
variable {P : Program} {ops : Array Oper} {Q : Exit → Act → World → Prop} {md : Region.Mode} {S : World → Prop} {L : Nat}
def dV(P:Program)(md:Region.Mode)(ops:Array Oper)(Q:Exit→Act→World→Prop)(S:World→Prop)(L:Nat):Nat→Array Bool→Act→World→Prop
 | 0,listed,a,w=>Region.ready md ops listed=[]∧Q .normal a w
 | fuel+1,listed,a,w=>
  (Region.ready md ops listed=[]→Q .normal a w)∧
  ∀i∈Region.ready md ops listed,wpOp P ops Q i (fun a' w'=>(i≠L→S w')∧dV P md ops Q S L fuel (listed.setIfInBounds i true) a' w') a w
theorem mU:∀(fuel:Nat) (listed:Array Bool) (a:Act) (w:World),dV P md ops Q S L fuel listed a w→wpAny P md ops Q fuel listed a w
 | 0,_,_,_,h=>h
 | fuel+1,_,_,_,h=>⟨h.1,fun i hi=>wpOp_mono (fun a' w' h'=>mU fuel _ a' w' h'.2) (h.2 i hi)⟩
theorem aCB{i:Nat}{oi:Oper}{fuel:Nat}{listed:Array Bool}{a:Act}{w:World}(hr:Region.ready md ops listed=[i])(hi:ops[i]?=some oi)(hg:oi.guard=none)
  (h:∀K':Act→World→Prop,(∀a' w',(i≠L→S w')→dV P md ops Q S L fuel (listed.setIfInBounds i true) a' w'→K' a' w')→oi.wp P a w K' Q):dV P md ops Q S L (fuel+1) listed a w:=by
 refine⟨fun h0=>by simp[hr]at h0,fun j hj=>?_⟩;rw[hr]at hj;simp only[List.mem_singleton]at hj;subst hj;unfold wpOp;simp only[hi];rw[if_pos (by simp[Region.wanted,hg])];exact .inl (h _ fun _ _ h1 h2=>⟨h1,h2⟩)
theorem oE(i:Nat){oi:Oper}{fuel:Nat}{listed:Array Bool}{a:Act}{w:World}(hi:ops[i]?=some oi)(h:∀K':Act→World→Prop,(∀a' w',(i≠L→S w')→dV P md ops Q S L fuel (listed.setIfInBounds i true) a' w'→K' a' w')→oi.wp P a w K' Q)(hr:Region.ready md ops listed=[i]:=by kernel_rfl)(hg:oi.guard=none:=by rfl):dV P md ops Q S L (fuel+1) listed a w:=aCB hr hi hg h
theorem aW{listed:Array Bool}{a:Act}{w:World}(hr:Region.ready md ops listed=[])(h:Q .normal a w):∀fuel,dV P md ops Q S L fuel listed a w
 | 0=>⟨hr,h⟩
 | _+1=>⟨fun _=>h,by rw[hr];simp⟩
theorem bA(S:World→Prop)(L:Nat){id:Nat}{a:Act}{w:World}(hm:P.follows .mixedOrders=true)
  (h:dV P .any ops Q S L ops.size (Array.replicate ops.size false) a w.drew):(Code.region id ops true).wp P Q a w:=
 wp_region_any hm (mU _ _ _ _ h)
end
end Go.Proofs.YtaahkgkdpnnhhaaGreat
namespace Go.Proofs.YtaahkgkdpnnhhaaGreat
open Go.RowKit
def fK(B:Int):Int:=if 8≤B∧B≤512 then(B+17) / 20 else 0
theorem qB(B:Int)(w:World):
  Calls Tryz.prog 114 #[.int .i64 B] w fun e w'=>e=.returned (.int .i64 (fK B))∧w=w':=by
 by_cases hB:8≤B∧B≤512
 ·have hb:=nL hB
  have HR:Hid (fK B=(B+17) / 20):=if_pos hB;have hd:(B-2+20-1).tdiv 20=(B+17) / 20:=by rw[Int.tdiv_eq_ediv_of_nonneg (by omega)];congr 1;omega
  go_enter Tryz.func114,Tryz.ntmps114
  go_wp2_with fail
  refine(eU _ _ _ _).mono ?_;rintro e w' ⟨rfl,rfl⟩;go_wp2;go_ret;exact⟨by rw[HR.out];go_num,rfl⟩
 ·have hb:=hZ hB
  have HR:Hid (fK B=0):=if_neg hB;go_enter Tryz.func114,Tryz.ntmps114;go_wp2_with fail;refine(eU _ _ _ _).mono ?_;rintro e w' ⟨rfl,rfl⟩;go_wp2;go_ret;exact⟨by rw[HR.out];rfl,rfl⟩
theorem qH(B:Int)(w:World):
  Calls Tryz.prog 92 #[.int .i64 B] w fun e w'=>e=.returned (.int .i64 (fK B))∧w=w':=by
 by_cases hB:8≤B∧B≤512
 ·have hb:=nL hB
  have HR:Hid (fK B=(B+17) / 20):=if_pos hB;go_enter Tryz.func92,Tryz.ntmps92;go_wp2_with fail;refine(iJ _ _).mono ?_;rintro e w' ⟨rfl,rfl⟩;go_wp2;go_loop [3] (fun i=>∃k:Nat,((k:Int)-1)*20<B-2∧i=.int .i64 k) (fun i=>600 -(intOf i).toNat)
  case atStart=>exact⟨0,by omega,rfl⟩
  case round=>
   obtain⟨k,hk,rfl⟩:=hrel;by_cases ai:(k:Int)*20<B-2
   ·go_wp2
    go_round
    case rel=>exact⟨k+1,by omega,by go_num⟩
    case measure=>simp[intOf];omega
   ·go_wp2
    go_ret
    exact⟨by rw[HR.out,show(B+17) / 20=(k:Int) by omega];rfl,rfl⟩
 ·have hb:=hZ hB
  have HR:Hid (fK B=0):=if_neg hB;go_enter Tryz.func92,Tryz.ntmps92;go_wp2_with fail;refine(iJ _ _).mono ?_;rintro e w' ⟨rfl,rfl⟩;go_wp2;go_ret;exact⟨by rw[HR.out];rfl,rfl⟩
end Go.Proofs.YtaahkgkdpnnhhaaGreat
namespace Go.Proofs.YtaahkgkdpnnhhaaGreat
variable{zs:List Int}{i k:Nat}
def st(zs:List Int)(i:Nat):Bool:=zs.getD i 0 != 0 && (i == 0 || zs.getD (i-1) 0 != zs.getD i 0)
def chQ(zs:List Int)(i:Nat):Nat→Nat
 | 0=>0
 | n+1=>if chQ zs i n=n∧zs.getD (i+n) 0=zs.getD i 0 then n+1 else chQ zs i n
def stl(zs:List Int)(k:Nat):List Nat:=(List.range k).filter (st zs)
def rns(zs:List Int)(k:Nat):List (Int×Int×Int):=(stl zs k).map fun(i:Nat)=>((i:Int),(chQ zs i (k-i):Int),zs.getD i 0)
theorem gN(zs:List Int)(k:Nat):stl zs (k+1)=if st zs k then stl zs k++[k]else stl zs k:=by
 simp only[stl,List.range_succ,List.filter_append];by_cases h:st zs k<;>simp[h]
theorem aBU(h:i∈stl zs k):i<k∧st zs i=true:=by
 simpa [stl] using h
theorem aMN(zs:List Int)(i n:Nat):chQ zs i n≤n:=by
 induction n with
 | zero=>simp[chQ]
 | succ n ih=>simp only[chQ];split<;>omega
theorem wA{n:Nat}:chQ zs i n=n↔∀j,j<n→zs.getD (i+j) 0=zs.getD i 0:=by
 induction n with
 | zero=>simp[chQ]
 | succ n ih=>
  simp only[chQ];constructor
  ·intro h j hj
   split at h
   ·rename_i hc
    by_cases Q9:j=n
    ·subst Q9;exact hc.2
    ·exact ih.1 hc.1 j (by omega)
   ·have:=aMN zs i n;omega
  ·intro h
   rw[if_pos ⟨ih.2 fun j hj=>h j (by omega),h n (by omega)⟩]
theorem kH:st zs i=true↔zs.getD i 0≠0∧(i=0∨zs.getD (i-1) 0≠zs.getD i 0):=by
 simp[st]
theorem aII(zs:List Int)(k:Nat)(h:zs.getD k 0≠0):∃i,i≤k∧st zs i=true∧stl zs (k+1)=stl zs i++[i]∧∀j,i≤j→j≤k→zs.getD j 0=zs.getD k 0:=by
 induction k with
 | zero=>
  have hs:st zs 0=true:=kH.2 ⟨h,.inl rfl⟩;exact⟨0,nR _,hs,by rw[gN,if_pos hs],fun j h1 h2=>by rw[show j=0 by omega]⟩
 | succ k ih=>
  by_cases hs:st zs (k+1)=true
  ·exact⟨k+1,nR _,hs,by rw[gN,if_pos hs],fun j h1 h2=>by rw[show j=k+1 by omega]⟩
  ·have he:zs.getD k 0=zs.getD (k+1) 0:=by
    have:=mt kH.2 hs
    simp only[Nat.add_sub_cancel,not_and,not_or,Decidable.not_not]at this;exact(this h).2
   obtain⟨i,h1,h2,h3,h4⟩:=ih (by rw[he];exact h);refine⟨i,by omega,h2,by rw[gN,if_neg hs,h3],fun j g1 g2=>?_⟩;by_cases hj:j=k+1
   ·rw[hj]
   ·rw[h4 j g1 (by omega),he]
theorem qW(h:i<k)(hn:¬∀j,i≤j→j≤k→zs.getD j 0=zs.getD i 0):chQ zs i (k+1-i)=chQ zs i (k-i):=by
 rw[show k+1-i=(k-i)+1 by omega];simp only[chQ];rw[if_neg];rintro⟨h1,h2⟩;refine hn fun j g1 g2=>?_;by_cases hj:j=k
 ·rw[hj,show k=i+(k-i) by omega];exact h2
 ·have:=wA.1 h1 (j-i) (by omega)
  rwa [show i+(j-i)=j by omega]at this
theorem aLM(zs:List Int)(i:Nat):chQ zs i 1=1:=by simp[chQ]
theorem aHV(zs:List Int)(k:Nat)(h:zs.getD k 0=0):rns zs (k+1)=rns zs k:=by
 have hs:st zs k≠true:=fun e=>(kH.1 e).1 h;simp only[rns,gN,if_neg hs];refine List.map_congr_left fun i hi=>?_;obtain⟨h1,h2⟩:=aBU hi;rw[qW h1 fun g=>(kH.1 h2).1 (by rw[←g k (by omega) (nR _)];exact h)]
theorem aKK(zs:List Int)(k:Nat)(h:zs.getD k 0≠0)(hn:k=0∨zs.getD (k-1) 0≠zs.getD k 0):rns zs (k+1)=rns zs k++[((k:Int),1,zs.getD k 0)]:=by
 have hs:st zs k=true:=kH.2 ⟨h,hn⟩;simp only[rns,gN,if_pos hs,List.map_append,List.map_cons,List.map_nil];rw[show k+1-k=1 by omega,aLM];congr 1;refine List.map_congr_left fun i hi=>?_;obtain⟨h1,h2⟩:=aBU hi;rw[qW h1 fun g=>?_];rcases hn with rfl | hn
 ·omega
 ·exact hn (by rw[g (k-1) (by omega) (by omega),g k (by omega) (by omega)])
theorem aHU(zs:List Int)(k:Nat)(h:zs.getD (k+1) 0≠0)(he:zs.getD k 0=zs.getD (k+1) 0):
  ∃(pre:List (Int×Int×Int)) (a b c:Int),rns zs (k+1)=pre++[(a,b,c)]∧rns zs (k+1+1)=pre++[(a,b+1,c)]∧0≤b∧b≤k+1:=by
 obtain⟨i,h1,h2,h3,h4⟩:=aII zs k (by rw[he];exact h);have hs:st zs (k+1)≠true:=fun e=>by
  rcases(kH.1 e).2 with g | g
  ·omega
  ·exact g he
 have ay:∀j,j<k+1-i→zs.getD (i+j) 0=zs.getD i 0:=fun j hj=>by rw[h4 (i+j) (by omega) (by omega),h4 i (by omega) h1]
 have hc:chQ zs i (k+1-i)=k+1-i:=wA.2 ay;have jg:chQ zs i (k+1+1-i)=k+1-i+1:=by
  rw[show k+1+1-i=(k+1-i)+1 by omega];refine wA.2 fun j hj=>?_;by_cases yf:j=k+1-i
  ·rw[yf,show i+(k+1-i)=k+1 by omega,←he,h4 i (by omega) h1]
  ·exact ay j (by omega)
 refine⟨(stl zs i).map fun(q:Nat)=>((q:Int),(chQ zs q (k+1-q):Int),zs.getD q 0),(i:Int),((k+1-i:Nat):Int),zs.getD i 0,?_,?_,by omega,by omega⟩
 ·simp only[rns,h3,List.map_append,List.map_cons,List.map_nil,hc]
 ·rw[rns,gN,if_neg hs,h3]
  simp only[List.map_append,List.map_cons,List.map_nil,jg];congr 1;refine List.map_congr_left fun q hq=>?_;obtain⟨g1,g2⟩:=aBU hq;rw[qW (show q<k+1 by omega) fun g=>?_];rcases(kH.1 h2).2 with e | e
  ·omega
  ·exact e (by rw[g (i-1) (by omega) (by omega),g i (by omega) (by omega)])
theorem sY(zs:List Int)(k:Nat):(rns zs k).length≤k:=by
 simp only[rns,List.length_map,stl];exact lT (List.length_filter_le _ _) (by simp)
theorem wB{m:Nat}(h:chQ zs i m=m)(hn:zs.getD (i+m) 0≠zs.getD i 0):∀n,chQ zs i (m+n)=m
 | 0=>h
 | n+1=>by
  have ih:=wB h hn n;rw[show m+(n+1)=(m+n)+1 by omega];simp only[chQ];rw[if_neg,ih];rintro⟨h1,h2⟩;rw[ih]at h1;exact hn (by rw[show m+n=m by omega]at h2;exact h2)
def srn(zs:List Int)(n k:Nat):List (Int×Int×Int):=(stl zs k).map fun(i:Nat)=>((i:Int),(chQ zs i (n-i):Int),zs.getD i 0)
theorem aKP(zs:List Int)(n:Nat):srn zs n n=rns zs n:=rfl
theorem aIH(zs:List Int)(n k:Nat)(h:st zs k=false):srn zs n (k+1)=srn zs n k:=by simp[srn,gN,h]
theorem qQ(zs:List Int)(n k:Nat)(h:st zs k=true):srn zs n (k+1)=srn zs n k++[((k:Int),(chQ zs k (n-k):Int),zs.getD k 0)]:=by simp[srn,gN,h]
theorem aBR(zs:List Int)(n k:Nat):(srn zs n k).length≤k:=by
 simp only[srn,List.length_map,stl];exact lT (List.length_filter_le _ _) (by simp)
end Go.Proofs.YtaahkgkdpnnhhaaGreat
namespace Go.Proofs
open Go.Shelf
def Tryz.sort64_ren:Go.Shelf.Ren:=⟨fun | 53=>156 | 64=>159 | 63=>158 | 78=>169 | 79=>170 | 70=>160 | 71=>161 | 72=>162 | 73=>163 | 74=>164 | 75=>165 | 59=>166 | 76=>167 | 77=>168 | 88=>171 | 89=>172 | 90=>173 | 91=>174 | 92=>175 | 68=>107 | 96=>176 | n=>n,fun | 22=>24 | 23=>2 | 3=>3 | 51=>141 | 0=>0 | 67=>217 | 69=>219 | 4=>4 | 61=>210 | 60=>209 | 44=>87 | 5=>5 | 9=>9 | 75=>220 | 79=>224 | 83=>226 | 84=>227 | n=>n,fun | n=>n⟩
theorem Tryz.sort64:Go.Proofs.SlLaysN.n53 Tryz.prog Tryz.sort64_ren:={
 mixed:=by kernel_rfl
 f53:=⟨Tryz.f156.name,by decide,Tryz.func156.trans (congrArg some (by kernel_rfl))⟩
 f59:=⟨Tryz.f166.name,by decide,Tryz.func166.trans (congrArg some (by kernel_rfl))⟩
 f63:=⟨Tryz.f158.name,by decide,Tryz.func158.trans (congrArg some (by kernel_rfl))⟩
 f64:=Tryz.func159.trans (congrArg some (by kernel_rfl))
 f68:=⟨Tryz.f107.name,by decide,Tryz.func107.trans (congrArg some (by kernel_rfl))⟩
 f70:=⟨Tryz.f160.name,by decide,Tryz.func160.trans (congrArg some (by kernel_rfl))⟩
 f71:=⟨Tryz.f161.name,by decide,Tryz.func161.trans (congrArg some (by kernel_rfl))⟩
 f72:=⟨Tryz.f162.name,by decide,Tryz.func162.trans (congrArg some (by kernel_rfl))⟩
 f73:=⟨Tryz.f163.name,by decide,Tryz.func163.trans (congrArg some (by kernel_rfl))⟩
 f74:=⟨Tryz.f164.name,by decide,Tryz.func164.trans (congrArg some (by kernel_rfl))⟩
 f75:=⟨Tryz.f165.name,by decide,Tryz.func165.trans (congrArg some (by kernel_rfl))⟩
 f76:=⟨Tryz.f167.name,by decide,Tryz.func167.trans (congrArg some (by kernel_rfl))⟩
 f77:=⟨Tryz.f168.name,by decide,Tryz.func168.trans (congrArg some (by kernel_rfl))⟩
 f78:=Tryz.func169.trans (congrArg some (by kernel_rfl))
 f79:=Tryz.func170.trans (congrArg some (by kernel_rfl))
 f88:=⟨Tryz.f171.name,by decide,Tryz.func171.trans (congrArg some (by kernel_rfl))⟩
 f89:=Tryz.func172.trans (congrArg some (by kernel_rfl))
 f90:=Tryz.func173.trans (congrArg some (by kernel_rfl))
 f91:=⟨Tryz.f174.name,by decide,Tryz.func174.trans (congrArg some (by kernel_rfl))⟩
 f92:=⟨Tryz.f175.name,by decide,Tryz.func175.trans (congrArg some (by kernel_rfl))⟩
 f96:=⟨Tryz.f176.name,by decide,Tryz.func176.trans (congrArg some (by kernel_rfl))⟩
 t0:=Tryz.underlying0
 a0:=Tryz.isAgg0
 z0:=Tryz.sizeOf0
 v0:=Tryz.zeroValue0
 t3:=Tryz.underlying3
 a3:=Tryz.isAgg3
 z3:=Tryz.sizeOf3
 v3:=Tryz.zeroValue3
 t4:=Tryz.underlying4
 a4:=Tryz.isAgg4
 z4:=Tryz.sizeOf4
 v4:=Tryz.zeroValue4
 t5:=Tryz.underlying5
 a5:=Tryz.isAgg5
 z5:=Tryz.sizeOf5
 v5:=Tryz.zeroValue5
 t9:=Tryz.underlying9
 a9:=Tryz.isAgg9
 z9:=Tryz.sizeOf9
 v9:=Tryz.zeroValue9
 t22:=Tryz.underlying24
 a22:=Tryz.isAgg24
 z22:=Tryz.sizeOf24
 v22:=Tryz.zeroValue24
 t23:=Tryz.underlying2
 a23:=Tryz.isAgg2
 z23:=Tryz.sizeOf2
 v23:=Tryz.zeroValue2
 t44:=Tryz.underlying87
 a44:=Tryz.isAgg87
 z44:=Tryz.sizeOf87
 v44:=Tryz.zeroValue87
 t51:=Tryz.underlying141
 a51:=Tryz.isAgg141
 z51:=Tryz.sizeOf141
 v51:=Tryz.zeroValue141
 t60:=Tryz.underlying209
 a60:=Tryz.isAgg209
 z60:=Tryz.sizeOf209
 v60:=Tryz.zeroValue209
 t61:=Tryz.underlying210
 a61:=Tryz.isAgg210
 z61:=Tryz.sizeOf210
 v61:=Tryz.zeroValue210
 t67:=Tryz.underlying217
 a67:=Tryz.isAgg217
 z67:=Tryz.sizeOf217
 v67:=Tryz.zeroValue217
 t69:=Tryz.underlying219
 a69:=Tryz.isAgg219
 z69:=Tryz.sizeOf219
 v69:=Tryz.zeroValue219
 t75:=Tryz.underlying220
 a75:=Tryz.isAgg220
 z75:=Tryz.sizeOf220
 v75:=Tryz.zeroValue220
 t79:=Tryz.underlying224
 a79:=Tryz.isAgg224
 z79:=Tryz.sizeOf224
 v79:=Tryz.zeroValue224
 t83:=Tryz.underlying226
 a83:=Tryz.isAgg226
 z83:=Tryz.sizeOf226
 v83:=Tryz.zeroValue226
 t84:=Tryz.underlying227
 a84:=Tryz.isAgg227
 z84:=Tryz.sizeOf227
 v84:=Tryz.zeroValue227}
end Go.Proofs
namespace Go.Proofs.YtaahkgkdpnnhhaaGreat
open Go.RowKit
def aFQ(lo hi:Nat)(w:World)(v:Value)(rs:List (Int×Int×Int)):Prop:=
 ∃a cap,v=.slice a rs.length cap∧(0<rs.length→∃b off,a=some ⟨b,off,none⟩∧lo≤b∧b<hi∧b<w.heap.size∧(∀j,w.frozen? ⟨b,j,none⟩=false)∧∀i,i<rs.length→w.cell? ⟨b,off+i*3,none⟩=some (.int .i64 (rs.getD i (0,0,0)).1)∧w.cell? ⟨b,off+i*3+1,none⟩=some (.int .i64 (rs.getD i (0,0,0)).2.1)∧w.cell? ⟨b,off+i*3+2,none⟩=some (.int .i64 (rs.getD i (0,0,0)).2.2))
theorem aFQ.empty(lo hi:Nat)(w:World)(a:Option Addr)(cap:Nat):aFQ lo hi w (.slice a 0 cap) []:=⟨a,cap,rfl,fun h=>by simp at h⟩
def eV(rs:List (Int×Int×Int)):List Value:=rs.flatMap fun r=>[.int .i64 r.1,.int .i64 r.2.1,.int .i64 r.2.2]
def fD(base:Nat)(w:World)(v:Value)(rs:List (Int×Int×Int)):Prop:=w.ownsRow base 165 3 v rs.length (eV rs)
theorem nG(rs:List (Int×Int×Int)):(eV rs).length=rs.length*3:=by
 induction rs with
 | nil=>rfl
 | cons r l ih=>simp only[eV,List.flatMap_cons,lP,List.length_cons,List.length_nil]at ih ⊢;omega
theorem jU(rs ss:List (Int×Int×Int)):eV (rs++ss)=eV rs++eV ss:=by simp[eV]
theorem uV(rs:List (Int×Int×Int))(i:Nat)(h:i<rs.length):(eV rs)[i*3]?=some (.int .i64 (rs.getD i (0,0,0)).1)∧(eV rs)[i*3+1]?=some (.int .i64 (rs.getD i (0,0,0)).2.1)∧(eV rs)[i*3+2]?=some (.int .i64 (rs.getD i (0,0,0)).2.2):=by
 induction rs generalizing i with
 | nil=>simp at h
 | cons r l ih=>
  match i with
  | 0=>simp[eV]
  | i+1=>
   have:=ih i (by simpa using h)
   have e:eV (r :: l)=[.int .i64 r.1,.int .i64 r.2.1,.int .i64 r.2.2]++eV l:=by simp[eV]
   rw[e,List.getElem?_append_right (by simp;omega),List.getElem?_append_right (by simp;omega),List.getElem?_append_right (by simp;omega)];simp only[List.length_cons,List.length_nil,List.getD_cons_succ];rw[show(i+1)*3 -(0+1+1+1)=i*3 by omega,show(i+1)*3+1 -(0+1+1+1)=i*3+1 by omega,show(i+1)*3+2 -(0+1+1+1)=i*3+2 by omega];exact this
theorem fD.shape{base:Nat}{w:World}{v:Value}{rs:List (Int×Int×Int)}(h:fD base w v rs):∃a cap,v=.slice a rs.length cap:=by
 rcases h.2 with⟨hv,hn⟩ | ⟨g,cap,cur,hv,_⟩
 ·exact⟨none,0,by rw[hv,hn]⟩
 ·exact⟨_,_,hv⟩
theorem fD.start(base:Nat)(w:World):fD base w (.slice none 0 0) []:=World.ownsRow_nil w base 165 3
theorem fD.lit(base:Nat)(w:World)(hb:base≤w.heap.size)(g:Nat)(hg:g=w.heap.size):fD base (w.alloc (.cells #[] 165)) (.slice (some ⟨g,0,none⟩) 0 0) []:=by
 subst hg;exact World.ownsRow_lit (e:=165) (size:=3) w #[] 0 hb (by decide) rfl
theorem fD.own{base:Nat}{w:World}{v:Value}{rs:List (Int×Int×Int)}(h:fD base w v rs):aFQ base w.heap.size w v rs:=by
 obtain⟨a,cap,hf⟩:=h.shape;refine⟨a,cap,hf,fun hp=>?_⟩;have ai:=h.lt;rcases h.2 with⟨_,e⟩ | ⟨b,cap',cur,hv,e1,e2,e3⟩
 ·omega
 ·subst hv
  have QO:=h.cellAt;have wm:=h.frozenAt;simp only[Value.slice.injEq]at hf;obtain⟨rfl,_,rfl⟩:=hf;refine⟨b,0,rfl,(ai b rfl).1,(ai b rfl).2,(ai b rfl).2,wm,fun i hi=>?_⟩;obtain⟨g1,g2,g3⟩:=uV rs i hi;rw[Nat.zero_add,QO (i*3) (by omega),QO (i*3+1) (by omega),QO (i*3+2) (by omega)];exact⟨g1,g2,g3⟩
theorem lN(zs:List Int):chk [zs]=if inB zs.length 8 512=false then 1 else if eQ zs then 2 else if fM zs then 5 else 0:=by
 by_cases h:inB zs.length 8 512=false<;>simp[chk,fP,h]
theorem aCL(a b:List Int)(h:a.length=b.length):chk [a,b]=if chk [a]=1∨chk [b]=1 then 1 else if chk [a]=2∨chk [b]=2 then 2 else if chk [a]≠0 then chk [a]else chk [b]:=by
 rw[lN,lN,h];by_cases h1:inB b.length 8 512=false
 ·simp[chk,fP,h,h1]
 ·cases h2:eQ a<;>cases h3:eQ b<;>cases h4:fM a<;>cases h5:fM b<;>simp[chk,fP,h,h1,h2,h3,h4,h5]
theorem aDR(a b:List Int)(h:a.length≠b.length):chk [a,b]=1:=by
 have h2:((b.length:Int) !=(a.length:Int))=true:=by simp;omega
 simp[chk,fP,h2]
theorem aAP{zs:List Int}(h:chk [zs]=0):(8≤zs.length∧zs.length≤512)∧(∀i,0≤zs.getD i 0∧zs.getD i 0≤65535)∧zs.getD 0 0=0∧zs.getD 1 0=0:=by
 rw[lN]at h;by_cases h1:inB zs.length 8 512=false
 ·rw[if_pos h1]at h;omega
 ·rw[if_neg h1]at h
  by_cases h2:eQ zs=true
  ·rw[if_pos h2]at h;omega
  ·rw[if_neg h2]at h
   by_cases h3:fM zs=true
   ·rw[if_pos h3]at h;omega
   ·simp only[Bool.not_eq_false,inB,decide_eq_true_eq]at h1
    have N7:eQ zs=false:=by simpa using h2
    simp only[fM,Bool.or_eq_true,bne_iff_ne,ne_eq,not_or,Decidable.not_not]at h3;refine⟨by omega,fun i=>?_,h3⟩;by_cases hi:i<zs.length
    ·have:=List.any_eq_false.1 N7 zs[i] (List.getElem_mem hi)
     simp only[inB,Bool.not_eq_true',decide_eq_false_iff_not,Decidable.not_not]at this;simpa [hi] using this
    ·simp[hi]
section
variable {P : Program} {ops : Array Oper} {Q : Exit → Act → World → Prop} {md : Region.Mode} {S : World → Prop} {L : Nat}
def aAE(md:Region.Mode)(ops:Array Oper)(L i:Nat):Bool:=((ops[L]?).map fun o=>o.after.toList.any fun e=>Region.binds md e && e.on == i).getD false
theorem aAF{i:Nat}(h:aAE md ops L i=true){listed:Array Bool}(hi:i∈Region.ready md ops listed)(hL:L∈Region.ready md ops listed):i=L:=by
 obtain⟨h1,o,ho,h2⟩:=mem_ready.1 hi;obtain⟨_,oL,Wt,h4⟩:=mem_ready.1 hL;unfold aAE at h;simp only[Wt,Option.map_some,Option.getD_some,List.any_eq_true,Bool.and_eq_true,beq_iff_eq]at h;obtain⟨e,he,hb,GD⟩:=h;have h6:=h4 e (by simpa using he) hb;rw[GD]at h6;simp only[Array.getD_eq_getD_getElem?]at h1 h6;cases hx:listed[i]? with
 | none=>simp[hx]at h1
 | some b=>simp[hx]at h1 h6;rw[h1]at h6;cases h6
theorem aCA{i:Nat}(fh:aAE md ops L i=true){oi:Oper}{v:Value}(hi:ops[i]?=some oi)(ur:∀(j:Nat) (o:Oper) cs b,ops[j]?=some o→o.op≠.select cs b)
  (hQ:∀c a w,Q (.panic c) (a.put oi.dst v) w→Q (.panic c) a w) (fuel:Nat):
  ∀(listed:Array Bool) (a:Act) (w:World),
   (∀j oj,ops[j]?=some oj→j≠i→listed.getD j true=false→(∀e∈oj.after,Region.binds md e=true→e.on≠i)→oi.apart ops oj=true)→
   i∈Region.ready md ops listed→YieldsIf P ops S oi v a→S w→
   dV P md ops Q S L fuel (listed.setIfInBounds i true) (a.put oi.dst v) w→dV P md ops Q S L (fuel+1) listed a w:=by
 induction fuel with
 | zero=>
  intro listed a w _ hr hy hS H;refine⟨fun h=>by simp[h]at hr,fun j hj=>?_⟩;by_cases dm:j=i
  ·subst dm
   exact hy.wpOp hi hS ⟨fun _=>hS,H⟩
  ·have hm:=ready_mono hj dm
   simp[H.1]at hm
 | succ fuel ih=>
  intro listed a w ms hr hy hS H;refine⟨fun h=>by simp[h]at hr,fun j hj=>?_⟩;by_cases dm:j=i
  ·subst dm
   exact hy.wpOp hi hS ⟨fun _=>hS,H⟩
  ·have Mr:j≠L:=fun e=>dm (e.trans (aAF fh hr (e▸hj)).symm)
   obtain⟨ug,oj,AX,ay⟩:=mem_ready.1 hj;have Bm:∀e∈oj.after,Region.binds md e=true→e.on≠i:=fun e he hb GD=>by
    have h1:=ay e he hb;have h0:=(mem_ready.1 hr).1;rw[GD]at h1;simp only[Array.getD_eq_getD_getElem?]at h0 h1;cases hx:listed[i]? with
    | none=>simp[hx]at h0
    | some b=>simp[hx]at h0 h1;rw[h0]at h1;cases h1
   have h2:=wpOp_putIf AX (ms j oj AX dm ug Bm) (fun cs b=>ur i oi cs b hi) (fun cs b=>ur j oj cs b AX) hQ hy (H.2 j (ready_mono hj dm));refine wpOp_mono (fun a' w' h3=>?_) h2;obtain⟨pj,Cl,hE⟩:=h3;refine⟨Cl,ih (listed.setIfInBounds j true) a' w' (fun k ok hk lq GM kq=>ms k ok hk lq ?_ kq) (ready_mono hr (Ne.symm dm)) pj (Cl Mr) ?_⟩
   ·by_cases hjk:j=k
    ·exact hjk▸ug
    ·rwa [getD_set_ne true hjk]at GM
   ·rw[Array.setIfInBounds_comm _ _ dm]
    exact hE
theorem vU{i:Nat}{oi:Oper}(t:Nat)(v:Value){fuel:Nat}{listed:Array Bool}{a:Act}{w:World}(fh:aAE md ops L i=true)(hi:ops[i]?=some oi)
  (hs:Region.noSelect ops=true) (hf:Region.free md ops listed i=true) (hr:(Region.ready md ops listed).contains i=true)
  (hQ:∀c a w,Q (.panic c) (a.put oi.dst v) w→Q (.panic c) a w) (hg:oi.guard=none) (ht:oi.dst=some t) (hS:S w) (hy:∀w,S w→(execOp a.eval oi).run P w=.ok (.value v) w)
  (h:dV P md ops Q S L fuel (listed.setIfInBounds i true) (a.put (some t) v) w):dV P md ops Q S L (fuel+1) listed a w:=
 aCA fh hi (Region.noSelect_spec hs) hQ fuel listed a w (Region.free_spec hi hf) (by simpa using hr) (.inl ⟨by simp[Region.wanted,hg],hy⟩) hS (by rw[ht];exact h)
theorem tJ(i:Nat){oi:Oper}(t:Nat)(v:Value){fuel:Nat}{listed:Array Bool}{a:Act}{w:World}(hi:ops[i]?=some oi)(hS:S w)(h:dV P md ops Q S L fuel (listed.setIfInBounds i true) (a.put (some t) v) w)(hy:∀w,S w→(execOp a.eval oi).run P w=.ok (.value v) w:=by(intro w' hw;(repeat (obtain⟨_,hw⟩:=hw));go_simp;try rfl))(fh:aAE md ops L i=true:=by kernel_rfl)(hs:Region.noSelect ops=true:=by kernel_rfl)(hf:Region.free md ops listed i=true:=by kernel_rfl)(hr:(Region.ready md ops listed).contains i=true:=by kernel_rfl)(hQ:∀c a w,Q (.panic c) (a.put oi.dst v) w→Q (.panic c) a w:=by exact fun _ _ _ h=>h)(hg:oi.guard=none:=by rfl)(ht:oi.dst=some t:=by rfl):dV P md ops Q S L (fuel+1) listed a w:=vU t v fh hi hs hf hr hQ hg ht hS hy h
end
end Go.Proofs.YtaahkgkdpnnhhaaGreat
namespace Go.Proofs.YtaahkgkdpnnhhaaGreat
open Go.RowKit
variable{ys zs:List Int}
theorem uP(zs:List Int):chk [zs]=0∨chk [zs]=1∨chk [zs]=2∨chk [zs]=5:=by
 rw[lN];by_cases h1:inB zs.length 8 512=false
 ·rw[if_pos h1];simp
 ·rw[if_neg h1]
  cases h2:eQ zs<;>cases h3:fM zs<;>simp
theorem mF{a b:List Int}(h:chk [a,b]=0):a.length=b.length∧chk [a]=0∧chk [b]=0:=by
 by_cases hl:a.length=b.length
 ·rw[aCL a b hl]at h
  rcases uP a with h1 | h1 | h1 | h1<;>rcases uP b with h2 | h2 | h2 | h2<;>simp[h1,h2]at h ⊢
  exact hl
 ·rw[aDR a b hl]at h;omega
theorem LRd.two{w:World}{a a':Option Addr}{c c':Nat}(h:Nts w (.slice a zs.length c) zs)(h':Nts w (.slice a' ys.length c') ys)(t:TypeId)(g:Nat)(hg:g=w.heap.size):
  LRd (w.alloc (.cells #[.slice a zs.length c,.slice a' ys.length c'] t)) (.slice (some ⟨g,0,none⟩) 2 2) [zs,ys]:=by
 subst hg;refine⟨_,0,2,rfl,fun i hi=>?_⟩;match i,hi with
 | 0,_=>exact⟨a,c,World.cell?_alloc_at _ _ _ _ rfl,h.alloc _⟩
 | 1,_=>exact⟨a',c',World.cell?_alloc_at _ _ _ _ rfl,h'.alloc _⟩
theorem aFH(h:zs.length≤1048576)(h':ys.length≤1048576)(i:Nat):(([zs,ys]:List (List Int)).getD i []).length≤1048576:=by
 match i with
 | 0=>exact h
 | 1=>exact h'
 | i+2=>simp
theorem iG(w:World)(o:Obj):Bl w (w.alloc o):=(bQ _ _).alloc (nR _) _
end Go.Proofs.YtaahkgkdpnnhhaaGreat
namespace Go.Proofs.YtaahkgkdpnnhhaaGreat
open Go.RowKit Go.Shelf
variable{Bs Bt n₀:Nat}
attribute [local go_sem] Oper.semAt_some
abbrev Blk(n:Nat):={x:Nat // 2≤x∧x<n}
def isF(zs ys:List Int)(i:Nat):Bool:=zs.getD i 0 == 0 && ys.getD i 0 == 0
def frs(zs ys:List Int)(n k:Nat):List (Blk n):=((List.range k).filterMap fun i=>if h:2≤i∧i<n then(if isF zs ys i then some ⟨i,h⟩else none)else none)
theorem wK(zs ys:List Int)(n k:Nat)(h:2≤k∧k<n)(hf:isF zs ys k=true):frs zs ys n (k+1)=frs zs ys n k++[⟨k,h⟩]:=by
 simp[frs,List.range_succ,h,hf]
theorem rM(zs ys:List Int)(n k:Nat)(h:¬(2≤k∧k<n∧isF zs ys k=true)):frs zs ys n (k+1)=frs zs ys n k:=by
 simp only[frs,List.range_succ,List.filterMap_append,List.filterMap_cons,List.filterMap_nil];by_cases h1:2≤k∧k<n
 ·have:isF zs ys k≠true:=fun e=>h ⟨h1.1,h1.2,e⟩
  simp[h1,this]
 ·simp[h1]
theorem rN(zs ys:List Int)(n:Nat){j k:Nat}(h:j≤k):frs zs ys n j <+: frs zs ys n k:=by
 induction k with
 | zero=>rw[show j=0 by omega];exact List.prefix_refl _
 | succ k ih=>
  by_cases hj:j=k+1
  ·rw[hj];exact List.prefix_refl _
  ·refine(ih (by omega)).trans ?_
   by_cases h1:2≤k∧k<n∧isF zs ys k=true
   ·rw[wK zs ys n k ⟨h1.1,h1.2.1⟩ h1.2.2];exact List.prefix_append _ _
   ·rw[rM zs ys n k h1];exact List.prefix_refl _
theorem jV(zs ys:List Int)(n k:Nat):(frs zs ys n k).length≤k:=by
 simp only[frs];exact lT (List.length_filterMap_le _ _) (by simp)
def KpF(n₀ Bs Bt:Nat)(W W':World):Prop:=Below n₀ W W'∧W'.heap[Bs]?=W.heap[Bs]?∧W'.heap[Bt]?=W.heap[Bt]?
theorem KpF.refl(n₀ Bs Bt:Nat)(W:World):KpF n₀ Bs Bt W W:=⟨bQ _ _,rfl,rfl⟩
theorem KpF.trans{A B C:World}(h:KpF n₀ Bs Bt A B)(k:KpF n₀ Bs Bt B C):KpF n₀ Bs Bt A C:=⟨h.1.trans k.1,k.2.1.trans h.2.1,k.2.2.trans h.2.2⟩
theorem KpF.put{N:Nat}(h1:n₀≤N)(h2:Bs<N)(h3:Bt<N)(W:World)(l:Nat)(o o':Obj)(hl:N≤l)(ho:W.heap[l]?=some o)(_:o.isCells=false)(_:o.isWalk=false):KpF n₀ Bs Bt W (W.putObj l o'):=by
 have ai:l<W.heap.size:=(Array.getElem?_eq_some_iff.1 ho).1;exact⟨(bQ n₀ W).grown (grownBy_putObj' W l o') (by omega) (fun k e=>by cases e;omega),World.putObj_heap_other (by omega),World.putObj_heap_other (by omega)⟩
theorem aGQ(F:Fence)(n:Nat)(hg:F.fn 150)(c9:F.round=none)(hn:1≤n)(l Bs Bt n₀ b off b' off' c c':Nat)(zs ys:List Int)(hl:ys.length=zs.length)(hz:zs.length≤512)(Ax:8≤zs.length)(hb:b<n₀)(xi:b'<n₀)(J Jx:List (Blk zs.length)→World→Prop)
  (hY:∀pre (x:Blk zs.length) W,J pre W→pre.length<zs.length→YieldAt F (n-1) Tryz.prog l #[.int .i64 (x.1:Int)] W fun e W'=>
   (e=.returned (.bool true)∧J (pre++[x]) W'∧KpF n₀ Bs Bt W W')∨(e=.returned (.bool false)∧Jx (pre++[x]) W'))
  (W:World) (iN:W.cell? ⟨Bs,0,none⟩=some (.slice (some ⟨b,off,none⟩) zs.length c)) (Tg:W.cell? ⟨Bt,0,none⟩=some (.slice (some ⟨b',off',none⟩) ys.length c'))
  (hc:∀j,j<zs.length→W.cell? ⟨b,off+j,none⟩=some (.int .i64 (zs.getD j 0))) (bo:∀j,j<ys.length→W.cell? ⟨b',off'+j,none⟩=some (.int .i64 (ys.getD j 0))) (h0:J [] W):
  CallsIn F n Tryz.prog 150 #[.func (.yield l) #[] #[],.pointer (some ⟨Bs,0,none⟩),.pointer (some ⟨Bt,0,none⟩)] W fun e W'=>(∃v,e=.returned v)∧
   ((∃xs,xs=frs zs ys zs.length zs.length∧J xs W')∨(∃pre,(∃k,k≤zs.length∧pre=frs zs ys zs.length k)∧Jx pre W')):=by
 refine callsIn_of_wp Tryz.func150 rfl hg ?_ c9;simp only[Tryz.ntmps150,List.size_toArray,List.length_cons,List.length_nil,Nat.reduceAdd,Nat.reduceSub,Array.replicate_succ,Array.replicate_zero,List.push_toArray,List.append_toArray,List.nil_append,List.cons_append];gi_wp2;gi_loopw [4] (fun i wr=>∃k:Nat,2≤k∧k≤zs.length∧i=.int .i64 k∧J (frs zs ys zs.length k) wr∧KpF n₀ Bs Bt W wr) (fun i _=>zs.length -(intOf i).toNat)
 case atStart=>exact⟨2,nR _,by omega,rfl,h0,KpF.refl _ _ _ _⟩
 case round=>
  obtain⟨k,uh,hk,rfl,Ci,iy⟩:=hrel;have d1:wr.cell? ⟨Bs,0,none⟩=some (.slice (some ⟨b,off,none⟩) zs.length c):=(World.cell?_of_block (a:=⟨Bs,0,none⟩) iy.2.1).trans iN;have d2:wr.cell? ⟨Bt,0,none⟩=some (.slice (some ⟨b',off',none⟩) ys.length c'):=(World.cell?_of_block (a:=⟨Bt,0,none⟩) iy.2.2).trans Tg;by_cases ai:k<zs.length
  ·have d3:wr.cell? ⟨b,off+k,none⟩=some (.int .i64 (zs.getD k 0)):=(iy.1.cell (p:=⟨b,off+k,none⟩) hb).trans (hc k ai)
   have d4:wr.cell? ⟨b',off'+k,none⟩=some (.int .i64 (ys.getD k 0)):=(iy.1.cell (p:=⟨b',off'+k,none⟩) xi).trans (bo k (by omega));have hi:(k:Int) <(zs.length:Int):=by omega
   have ak:(k:Int) <(ys.length:Int):=by omega
   have HF:Hid (isF zs ys k=(zs.getD k 0 == 0 && ys.getD k 0 == 0)):=rfl;have ah:=jV zs ys zs.length k;obtain⟨x,HX⟩:∃x,Hid (zs.getD k 0=x):=⟨_,rfl⟩;obtain⟨y,HYY⟩:∃y,Hid (ys.getD k 0=y):=⟨_,rfl⟩;rw[HX.out]at d3 HF;rw[HYY.out]at d4 HF;clear hc bo iN Tg h0;have HL:Hid (ys.length=zs.length):=hl;clear hl;by_cases hx:x=0
   ·subst hx
    by_cases hy:y=0
    ·subst hy
     have wm:isF zs ys k=true:=by rw[HF.out];rfl
     have zq:Hid (frs zs ys zs.length (k+1)=frs zs ys zs.length k++[⟨k,uh,ai⟩]):=wK zs ys _ k ⟨uh,ai⟩ wm;obtain⟨fn,tmps,assign,body,hy,hR⟩:=hY _ ⟨k,uh,ai⟩ wr Ci (by omega);dsimp only at hy;clear wm hY;gi_wp2;refine hR.mono ?_;rintro e W3 (⟨rfl,vf,Jo⟩ | ⟨rfl,L3⟩)
     ·rw[←zq.out]at vf
      clear d1 d2 d3 d4 hy hR Ci;gi_wp2;go_roundw
      case rel=>exact⟨k+1,by omega,by omega,by go_num,vf,iy.trans Jo⟩
      case measure=>simp[intOf];omega
     ·rw[←zq.out]at L3
      clear d1 d2 d3 d4 hy hR Ci;gi_wp2;refine bodyPost_ret (results_none rfl _ _ _) rfl ?_;exact⟨⟨_,rfl⟩,.inr ⟨_,⟨k+1,by omega,rfl⟩,L3⟩⟩
    ·have pj:(y == 0)=false:=by simpa using hy
     have zq:Hid (frs zs ys zs.length (k+1)=frs zs ys zs.length k):=rM zs ys _ k fun e=>by have:=e.2.2;rw[HF.out,pj]at this;simp at this
     clear hy hY;gi_wp2;refine⟨fun _ h=>(by cases h),?_⟩;gi_wp2;go_roundw
     case rel=>exact⟨k+1,by omega,by omega,by go_num,by rw[zq.out];exact Ci,iy⟩
     case measure=>simp[intOf];omega
   ·have bq:(x == 0)=false:=by simpa using hx
    have zq:Hid (frs zs ys zs.length (k+1)=frs zs ys zs.length k):=rM zs ys _ k fun e=>by have:=e.2.2;rw[HF.out,bq]at this;simp at this
    clear hx hY;gi_wp2;refine⟨fun _ h=>(by cases h),?_⟩;gi_wp2;go_roundw
    case rel=>exact⟨k+1,by omega,by omega,by go_num,by rw[zq.out];exact Ci,iy⟩
    case measure=>simp[intOf];omega
  ·obtain rfl:k=zs.length:=by omega
   gi_wp2
   go_end0
   exact⟨⟨_,rfl⟩,.inl ⟨_,rfl,Ci⟩⟩
attribute [local go_sem] Oper.semAt_some
theorem iZ(F:Fence)(n:Nat)(hg:F.fn 131)(c9:F.round=none)(x y:Value)(w:World)(hx:∃a l c,x=.slice a l c)(hy:∃a l c,y=.slice a l c):
  CallsIn F n Tryz.prog 131 #[x,y] w fun e w'=>e=.returned (.func (.func 150) #[] #[.pointer (some ⟨w.heap.size,0,none⟩),.pointer (some ⟨w.heap.size+1,0,none⟩)])∧w'=(w.alloc (.cells #[x] 24)).alloc (.cells #[y] 24):=by
 obtain⟨a,l,c,rfl⟩:=hx;obtain⟨a',l',c',rfl⟩:=hy;refine callsIn_of_wp Tryz.func131 rfl hg ?_ c9;simp only[Tryz.ntmps131,List.size_toArray,List.length_cons,List.length_nil,Nat.reduceAdd,Nat.reduceSub,Array.replicate_succ,Array.replicate_zero,List.push_toArray,List.append_toArray,List.nil_append,List.cons_append];gi_wp2;go_ret;exact⟨rfl,rfl⟩
theorem mL(F:Fence)(n:Nat)(hg:F.fn 150)(c9:F.round=none)(hn:1≤n)(Bs Bt n₀:Nat)(a a':Option Addr)(c c':Nat)(zs ys:List Int)(hl:ys.length=zs.length)(hz:zs.length≤512)(Ax:8≤zs.length)(w:World)(VI:Bs<w.heap.size)(VJ:Bt<w.heap.size)(_hn₀:n₀≤w.heap.size)
  (hc:w.cell? ⟨Bs,0,none⟩=some (.slice a zs.length c)) (bo:w.cell? ⟨Bt,0,none⟩=some (.slice a' ys.length c')) (w0:World) (h0:Nts w0 (.slice a zs.length c) zs) (Sm:Nts w0 (.slice a' ys.length c') ys) (mz:w0.heap.size≤n₀) (gz:Bl w0 w):
  SeqStopsK F n Tryz.prog 150 #[.pointer (some ⟨Bs,0,none⟩),.pointer (some ⟨Bt,0,none⟩)] (fun x:Blk zs.length=>#[Value.int .i64 (x.1:Int)]) (KpF n₀ Bs Bt) (fun xs=>xs=frs zs ys zs.length zs.length) (fun pre=>∃k,k≤zs.length∧pre=frs zs ys zs.length k) zs.length w:=fun l J Jx W hW _ _ hY Ki=>by
 obtain⟨_,_,he,hs⟩:=h0.shape;simp only[Value.slice.injEq,true_and]at he;obtain⟨rfl,rfl⟩:=he;obtain⟨b,off,rfl,aa⟩:=hs (by omega);obtain⟨_,_,he,LH⟩:=Sm.shape;simp only[Value.slice.injEq,true_and]at he;obtain⟨rfl,rfl⟩:=he;obtain⟨b',off',rfl,eu⟩:=LH (by omega);have hb:b<w0.heap.size:=World.block_lt_of_cell? _ _ (aa 0 (by omega));have xi:b'<w0.heap.size:=World.block_lt_of_cell? _ _ (eu 0 (by omega));have NZ:=gz.trans (hW.mono gz.size);exact aGQ F n hg c9 hn l Bs Bt n₀ b off b' off' c c' zs ys hl hz Ax (by omega) (by omega) J Jx hY W ((hW.cell (p:=⟨Bs,0,none⟩) VI).trans hc) ((hW.cell (p:=⟨Bt,0,none⟩) VJ).trans bo)
  (fun j hj=>(NZ.cell (p:=⟨b,off+j,none⟩) hb).trans (aa j hj)) (fun j hj=>(NZ.cell (p:=⟨b',off'+j,none⟩) xi).trans (eu j hj)) Ki
def low(zs ys:List Int):Int:=match frs zs ys zs.length zs.length with
 | []=>0
 | x :: _=>(x.1:Int)
theorem uD(F:Fence)(n:Nat)(h1:F.fn 151)(h2:F.fn 131)(h3:F.fn 150)(c9:F.round=none)(hn:3≤n)(a a':Option Addr)(c c':Nat)(zs ys:List Int)(hl:ys.length=zs.length)(hz:zs.length≤512)(Ax:8≤zs.length)(w:World)(hv:Nts w (.slice a zs.length c) zs)(np:Nts w (.slice a' ys.length c') ys):
  CallsIn F n Tryz.prog 151 #[.slice a zs.length c,.slice a' ys.length c'] w fun e W'=>e=.returned (.int .i64 (low zs ys))∧Bl w W':=by
 have nk:1≤n:=by omega
 have HL:Hid (ys.length=zs.length):=hl;clear hl;refine callsIn_of_wp_marks Tryz.func151 rfl h1 ?_ c9;simp only[Tryz.ntmps151,List.size_toArray,List.length_cons,List.length_nil,Nat.reduceAdd,Nat.reduceSub,Array.replicate_succ,Array.replicate_zero,List.push_toArray,List.append_toArray,List.nil_append,List.cons_append];gi_wp2_with (gi_at_call 131;refine(iZ F (n-1) h2 c9 _ _ _ ⟨_,_,_,rfl⟩ ⟨_,_,_,rfl⟩).mono ?_;rintro e w' ⟨rfl,rfl⟩);have bR:=Boxed.new w 2 (.int .i64 0);have bS:=Boxed.new (w.alloc (.cells #[.int .i64 0] 2)) 24 (.slice a zs.length c);have bT:=Boxed.new ((w.alloc (.cells #[.int .i64 0] 2)).alloc (.cells #[.slice a zs.length c] 24)) 24 (.slice a' ys.length c');simp only[World.size_alloc]at bS bT;have cw:Bl w (((w.alloc (.cells #[.int .i64 0] 2)).alloc (.cells #[.slice a zs.length c] 24)).alloc (.cells #[.slice a' ys.length c'] 24)):=(((bQ _ w).alloc (nR _) _).alloc (by simp) _).alloc (by simp;omega) _;refine wpIn_rangeFunc_ownF c9 nk (gf:=150) (lb:=#[.pointer (some ⟨w.heap.size+1,0,none⟩),.pointer (some ⟨w.heap.size+1+1,0,none⟩)]) rfl h3 (enters_of Tryz.func150 (by kernel_rfl) rfl)
  (mL F (n-1) h3 c9 (by omega) (w.heap.size+1) (w.heap.size+1+1) w.heap.size a a' c c' zs ys HL.out hz Ax _ (by simp) (by simp) (by simp;omega) ((bS.alloc _).cell) bT.cell w hv np (by omega) cw) KpF.trans (KpF.put (by simp;omega) (by simp) (by simp)) (bQ _ _) (fun _=>rfl)
  (fun pre W=>(pre=[]∧W.cell? ⟨w.heap.size,0,none⟩=some (.int .i64 0)∧W.frozen? ⟨w.heap.size,0,none⟩=false)∧Bl w W)
  (fun k pre W=>(k=.ret∧∃x,pre=[x]∧W.cell? ⟨w.heap.size,0,none⟩=some (.int .i64 (x.1:Int)))∧Bl w W)
  (OwnFrom.and (Own.from (fun s A B row hs hg hr=>⟨hs.1,cell_kept hs.2.1 hg hr,(frozen_kept hs.2.1 hg hr).trans hs.2.2⟩) _) (ownFrom_below (nR _) (by simp;omega)))
  (fun k=>OwnFrom.and (Own.from (fun s A B row hs hg hr=>by obtain⟨e1,x,e2,e3⟩:=hs;exact⟨e1,x,e2,cell_kept e3 hg hr⟩) _) (ownFrom_below (nR _) (by simp;omega)))
  ⟨⟨rfl,((bR.alloc _).alloc _).cell,((bR.alloc _).alloc _).frozen⟩,cw⟩
  (fun x=>{tmps:=#[.slice a zs.length c,.slice a' ys.length c',undef,undef,.pointer (some ⟨w.heap.size,0,none⟩),.int .i64 (x.1:Int),.slice a zs.length c,.slice a' ys.length c',.func (.func 150) #[] #[.pointer (some ⟨w.heap.size+1,0,none⟩),.pointer (some ⟨w.heap.size+1+1,0,none⟩)],.int .i64 (x.1:Int),undef],defers:=[]}) ?assign ?body ?done ?stop
 case assign=>
  intro l x W K hK;gi_wp2;exact hK
 case body=>
  rintro l pre x W ⟨⟨rfl,hc,hf⟩,hB⟩ _;gi_wp2;exact⟨KeepsOthers.setCell _ _ _,⟨rfl,x,rfl,World.cell?_setCell_same' _ _ _ (by rw[hc];rfl)⟩,hB.setCell (p:=⟨w.heap.size,0,none⟩) (nR _) _⟩
 case done=>
  rintro D xs W hD rfl ⟨⟨AV,hc,hf⟩,hB⟩ hK;gi_wp2;have Pm:=(KeepsOthers.setCell W ⟨w.heap.size,0,none⟩ (.int .i64 0)).same D _ hK rfl;refine⟨by simp,.inl ⟨_,_,rfl,run_takeDeferred Pm,?_⟩⟩;have EH:=cell_kept (World.cell?_setCell_same' W ⟨w.heap.size,0,none⟩ (.int .i64 0) (by rw[hc];rfl)) (grownBy_putObj' _ D (.deferred none)) (fun r e=>by cases e;exact⟨_,Pm,rfl⟩);refine⟨.int .i64 0,?_,by unfold low;rw[AV],(hB.setCell (p:=⟨w.heap.size,0,none⟩) (nR _) _).trans (belowK_b (w:=w) (nR _) _ D _ _ (by simp at hD;omega) Pm rfl rfl)⟩;simp[results,Tryz.f151,go_sem,EH]
 case stop=>
  rintro D k pre W hD ⟨q,hq,lg⟩ ⟨⟨rfl,x,rfl,hc⟩,hB⟩ hK;gi_wp2;refine⟨by simp,.inl ⟨_,_,rfl,run_takeDeferred hK,?_⟩⟩;have EH:=cell_kept hc (grownBy_putObj' _ D (.deferred none)) (fun r e=>by cases e;exact⟨_,hK,rfl⟩);have AT:low zs ys=(x.1:Int):=by
   obtain⟨t,ht⟩:=rN zs ys zs.length hq;unfold low;rw[←ht,←lg];rfl
  refine⟨.int .i64 (x.1:Int),?_,by rw[AT],hB.trans (belowK_b (w:=w) (nR _) W D _ _ (by simp at hD;omega) hK rfl rfl)⟩;simp[results,Tryz.f151,go_sem,EH]
theorem sD(a a':Option Addr)(c c':Nat)(zs ys:List Int)(hl:ys.length=zs.length)(hz:zs.length≤512)(Ax:8≤zs.length)(w:World)(hv:Nts w (.slice a zs.length c) zs)(np:Nts w (.slice a' ys.length c') ys):
  Calls Tryz.prog 151 #[.slice a zs.length c,.slice a' ys.length c'] w fun e W'=>e=.returned (.int .i64 (low zs ys))∧Bl w W':=
 (callsIn_wide (n:=3)).1 (uD Fence.wide 3 trivial trivial trivial rfl (nR _) a a' c c' zs ys hl hz Ax w hv np)
end Go.Proofs.YtaahkgkdpnnhhaaGreat
namespace Go.Proofs.YtaahkgkdpnnhhaaGreat
open Go.RowKit
def frI(zs ys:List Int)(n k:Nat):List Int:=(frs zs ys n k).map fun x=>(x.1:Int)
theorem rL(zs ys:List Int)(n k:Nat):(frI zs ys n k).length≤k:=by
 simp only[frI,List.length_map];exact jV zs ys n k
theorem aEA(zs ys:List Int)(n k i:Nat)(hn:n≤1048576):-9223372036854775808≤(frI zs ys n k).getD i 0∧(frI zs ys n k).getD i 0≤9223372036854775807:=by
 by_cases hi:i <(frs zs ys n k).length
 ·have:=(frs zs ys n k)[i].2
  simp only[frI,gD,List.getElem?_map,gE hi,Option.map_some,Option.getD_some];omega
 ·simp[frI,List.getElem?_eq_none (Nat.le_of_not_lt hi)]
theorem rY(a a':Option Addr)(c c':Nat)(zs ys:List Int)(w:World)(hv:Nts w (.slice a zs.length c) zs)(np:Nts w (.slice a' ys.length c') ys)(hl:ys.length=zs.length)(hz:zs.length≤512)(Ax:8≤zs.length):
  Calls Tryz.prog 84 #[.slice a zs.length c,.slice a' ys.length c'] w fun e w'=>∃u,e=.returned u∧dE w.heap.size w' u (frI zs ys zs.length zs.length)∧Bl w w':=by
 obtain⟨_,_,he,hs⟩:=hv.shape;simp only[Value.slice.injEq,true_and]at he;obtain⟨rfl,rfl⟩:=he;obtain⟨b,off,rfl,aa⟩:=hs (by omega);obtain⟨_,_,he,LH⟩:=np.shape;simp only[Value.slice.injEq,true_and]at he;obtain⟨rfl,rfl⟩:=he;obtain⟨b',off',rfl,eu⟩:=LH (by omega);have lm:b<w.heap.size:=World.block_lt_of_cell? _ _ (aa 0 (by omega));have QL:b'<w.heap.size:=World.block_lt_of_cell? _ _ (eu 0 (by omega));have HL:Hid (ys.length=zs.length):=hl;clear hl hs LH hv np;go_enter Tryz.func84,Tryz.ntmps84;go_wp2;go_loopw [5,6] (fun u i wr=>∃k:Nat,2≤k∧k≤zs.length∧i=.int .i64 k∧dE w.heap.size wr u (frI zs ys zs.length k)∧Bl w wr) (fun _ i _=>zs.length -(intOf i).toNat)
 case atStart=>exact⟨2,nR _,by omega,rfl,dE.lit _ _ (nR _) _ rfl,iG _ _⟩
 case round=>
  obtain⟨k,uh,hk,rfl,ap,hb⟩:=hrel;obtain⟨ua,uc,Ek⟩:=ap.shape;subst Ek;have bd:=hb.size;have te:(frI zs ys zs.length k).length<8589934592:=by have:=rL zs ys zs.length k;omega
  by_cases ai:k<zs.length
  ·have g1:wr.cell? ⟨b,off+k,none⟩=some (.int .i64 (zs.getD k 0)):=(hb.cell (p:=⟨b,off+k,none⟩) lm).trans (aa k ai)
   have g2:wr.cell? ⟨b',off'+k,none⟩=some (.int .i64 (ys.getD k 0)):=(hb.cell (p:=⟨b',off'+k,none⟩) QL).trans (eu k (by rw[HL.out];exact ai));have hi:(k:Int) <(zs.length:Int):=by omega
   have ak:(k:Int) <(ys.length:Int):=by rw[HL.out];omega
   have HF:Hid (isF zs ys k=(zs.getD k 0 == 0 && ys.getD k 0 == 0)):=rfl;generalize zs.getD k 0=x at *;generalize ys.getD k 0=y at *;clear aa eu;by_cases hx:x=0
   ·subst hx
    by_cases hy:y=0
    ·subst hy
     have zq:Hid (frI zs ys zs.length (k+1)=frI zs ys zs.length k++[(k:Int)]):=by
      unfold frI;rw[wK zs ys _ k ⟨uh,ai⟩ (by rw[HF.out];rfl)];simp[Hid]
     go_wp2_with (first | (at_builtin;refine kK rfl _ _ rfl _ ap rfl rfl te bd ?_;intro v' w1 eo di fq Qs) | go_in)
     rw[←zq.out]at eo;go_roundw
     case rel=>exact⟨k+1,by omega,by omega,by go_num,eo,hb.trans di⟩
     case measure=>simp[intOf];omega
    ·have pj:(y == 0)=false:=by simpa using hy
     have zq:Hid (frI zs ys zs.length (k+1)=frI zs ys zs.length k):=by
      unfold frI;rw[rM zs ys _ k fun e=>by have:=e.2.2;rw[HF.out,pj]at this;simp at this];rfl
     clear hy;go_wp2;go_roundw
     case rel=>exact⟨k+1,by omega,by omega,by go_num,by rw[zq.out];exact ap,hb⟩
     case measure=>simp[intOf];omega
   ·have bq:(x == 0)=false:=by simpa using hx
    have zq:Hid (frI zs ys zs.length (k+1)=frI zs ys zs.length k):=by
     unfold frI;rw[rM zs ys _ k fun e=>by have:=e.2.2;rw[HF.out,bq]at this;simp at this];rfl
    clear hx;go_wp2;go_roundw
    case rel=>exact⟨k+1,by omega,by omega,by go_num,by rw[zq.out];exact ap,hb⟩
    case measure=>simp[intOf];omega
  ·obtain rfl:k=zs.length:=by omega
   clear aa eu;go_wp2;go_ret;exact⟨_,rfl,ap,hb⟩
section
variable {P : Program} {ops : Array Oper} {Q : Exit → Act → World → Prop} {md : Region.Mode} {S : World → Prop} {L : Nat}
def dep(md:Region.Mode)(ops:Array Oper):Nat→Nat→Nat→Bool
 | 0,_,_=>false
 | f+1,L,i=>((ops[L]?).map fun o=>o.after.toList.any fun e=>Region.binds md e && (e.on == i || dep md ops f e.on i)).getD false
def kM(md:Region.Mode)(ops:Array Oper)(listed:Array Bool):Prop:=
 ∀j o,ops[j]?=some o→listed.getD j true=true→∀e∈o.after,Region.binds md e=true→listed.getD e.on true=true
def wD(md:Region.Mode)(ops:Array Oper)(listed:Array Bool):Bool:=
 (List.range ops.size).all fun j=>!(listed.getD j true) || ((ops[j]?).map fun o=>o.after.toList.all fun e=>!(Region.binds md e) || listed.getD e.on true).getD true
theorem mZ{listed:Array Bool}(h:wD md ops listed=true):kM md ops listed:=fun j o ho hj e he hb=>by
 have h1:=List.all_eq_true.1 h j (List.mem_range.2 (Array.getElem?_eq_some_iff.1 ho).1);rw[ho,hj]at h1;simp only[Bool.not_true,Bool.false_or,Option.map_some,Option.getD_some]at h1;have h2:=List.all_eq_true.1 h1 e (by simpa using he);rw[hb]at h2;simpa using h2
theorem aCR{listed:Array Bool}{j k:Nat}(h:listed.getD k true=true):(listed.setIfInBounds j true).getD k true=true:=by
 simp only[Array.getD_eq_getD_getElem?,Array.getElem?_setIfInBounds]at *;split
 ·split<;>simp
 ·exact h
theorem pP{listed:Array Bool}{j:Nat}(h:j∈Region.ready md ops listed):∃o,ops[j]?=some o∧∀e∈o.after,Region.binds md e=true→listed.getD e.on true=true:=by
 obtain⟨_,o,ho,h2⟩:=mem_ready.1 h;refine⟨o,ho,fun e he hb=>?_⟩;have:=h2 e he hb;simp only[Array.getD_eq_getD_getElem?]at this ⊢;cases hx:listed[e.on]? with
 | none=>rfl
 | some b=>rw[hx]at this;simpa using this
theorem kM.step{listed:Array Bool}{j:Nat}(h:kM md ops listed)(hj:j∈Region.ready md ops listed):kM md ops (listed.setIfInBounds j true):=fun k o ho hk e he hb=>by
 by_cases ek:k=j
 ·subst ek
  obtain⟨o',GC,h2⟩:=pP hj;rw[ho]at GC;cases GC;exact aCR (h2 e he hb)
 ·refine aCR (h k o ho ?_ e he hb)
  rwa [getD_set_ne true (Ne.symm ek)]at hk
theorem rC{listed:Array Bool}(h:kM md ops listed){i:Nat}:∀(f L:Nat) (o:Oper),ops[L]?=some o→(∀e∈o.after,Region.binds md e=true→listed.getD e.on true=true)→dep md ops f L i=true→listed.getD i true=true
 | 0,_,_,_,_,hd=>by simp[dep]at hd
 | f+1,L,o,ho,ha,hd=>by
  simp only[dep,ho,Option.map_some,Option.getD_some,List.any_eq_true,Bool.and_eq_true,Bool.or_eq_true,beq_iff_eq]at hd;obtain⟨e,he,hb,hd⟩:=hd;have h1:=ha e (by simpa using he) hb;rcases hd with hd | hd
  ·rw[←hd];exact h1
  ·cases GC:ops[e.on]? with
   | none=>
    cases f with
    | zero=>simp[dep]at hd
    | succ f=>simp[dep,GC]at hd
   | some o'=>exact rC h f e.on o' GC (h e.on o' GC h1) hd
theorem uT{listed:Array Bool}(h:kM md ops listed){f i:Nat}(hd:dep md ops f L i=true)(hi:i∈Region.ready md ops listed)(hL:L∈Region.ready md ops listed):i=L:=by
 obtain⟨o,ho,h2⟩:=pP hL;have h3:=rC h f L o ho h2 hd;have h4:=(mem_ready.1 hi).1;rw[h3]at h4;cases h4
theorem aAG{i fd:Nat}(fh:dep md ops fd L i=true){oi:Oper}{v:Value}(hi:ops[i]?=some oi)(ur:∀(j:Nat) (o:Oper) cs b,ops[j]?=some o→o.op≠.select cs b)
  (hQ:∀c a w,Q (.panic c) (a.put oi.dst v) w→Q (.panic c) a w) (fuel:Nat):
  ∀(listed:Array Bool) (a:Act) (w:World),kM md ops listed→
   (∀j oj,ops[j]?=some oj→j≠i→listed.getD j true=false→(∀e∈oj.after,Region.binds md e=true→e.on≠i)→oi.apart ops oj=true)→
   i∈Region.ready md ops listed→YieldsIf P ops S oi v a→S w→
   dV P md ops Q S L fuel (listed.setIfInBounds i true) (a.put oi.dst v) w→dV P md ops Q S L (fuel+1) listed a w:=by
 induction fuel with
 | zero=>
  intro listed a w _ _ hr hy hS H;refine⟨fun h=>by simp[h]at hr,fun j hj=>?_⟩;by_cases dm:j=i
  ·subst dm
   exact hy.wpOp hi hS ⟨fun _=>hS,H⟩
  ·have hm:=ready_mono hj dm
   simp[H.1]at hm
 | succ fuel ih=>
  intro listed a w au ms hr hy hS H;refine⟨fun h=>by simp[h]at hr,fun j hj=>?_⟩;by_cases dm:j=i
  ·subst dm
   exact hy.wpOp hi hS ⟨fun _=>hS,H⟩
  ·have Mr:j≠L:=fun e=>dm (e.trans (uT au fh hr (e▸hj)).symm)
   obtain⟨ug,oj,AX,ay⟩:=mem_ready.1 hj;have Bm:∀e∈oj.after,Region.binds md e=true→e.on≠i:=fun e he hb GD=>by
    have h1:=ay e he hb;have h0:=(mem_ready.1 hr).1;rw[GD]at h1;simp only[Array.getD_eq_getD_getElem?]at h0 h1;cases hx:listed[i]? with
    | none=>simp[hx]at h0
    | some b=>simp[hx]at h0 h1;rw[h0]at h1;cases h1
   have h2:=wpOp_putIf AX (ms j oj AX dm ug Bm) (fun cs b=>ur i oi cs b hi) (fun cs b=>ur j oj cs b AX) hQ hy (H.2 j (ready_mono hj dm));refine wpOp_mono (fun a' w' h3=>?_) h2;obtain⟨pj,Cl,hE⟩:=h3;refine⟨Cl,ih (listed.setIfInBounds j true) a' w' (au.step hj) (fun k ok hk lq GM kq=>ms k ok hk lq ?_ kq) (ready_mono hr (Ne.symm dm)) pj (Cl Mr) ?_⟩
   ·by_cases hjk:j=k
    ·exact hjk▸ug
    ·rwa [getD_set_ne true hjk]at GM
   ·rw[Array.setIfInBounds_comm _ _ dm]
    exact hE
theorem aU{i:Nat}{oi:Oper}(t:Nat)(v:Value){fuel:Nat}{listed:Array Bool}{a:Act}{w:World}(fh:dep md ops ops.size L i=true)(sc:wD md ops listed=true)(hi:ops[i]?=some oi)
  (hs:Region.noSelect ops=true) (hf:Region.free md ops listed i=true) (hr:(Region.ready md ops listed).contains i=true)
  (hQ:∀c a w,Q (.panic c) (a.put oi.dst v) w→Q (.panic c) a w) (hg:oi.guard=none) (ht:oi.dst=some t) (hS:S w) (hy:∀w,S w→(execOp a.eval oi).run P w=.ok (.value v) w)
  (h:dV P md ops Q S L fuel (listed.setIfInBounds i true) (a.put (some t) v) w):dV P md ops Q S L (fuel+1) listed a w:=
 aAG fh hi (Region.noSelect_spec hs) hQ fuel listed a w (mZ sc) (Region.free_spec hi hf) (by simpa using hr) (.inl ⟨by simp[Region.wanted,hg],hy⟩) hS (by rw[ht];exact h)
end
end Go.Proofs.YtaahkgkdpnnhhaaGreat
namespace Go.Proofs.YtaahkgkdpnnhhaaGreat
open Go.RowKit
theorem aJU:(Tryz.prog.info? 165).map (fun i=>(i.zero,i.size,i.bytes))=some (some (.agg #[.int .i64 0,.int .i64 0,.int .i64 0]),3,24):=by kernel_rfl
theorem dR{ops:Array Oper}{rest:List Oper}{o:Oper}{a:Act}{Q:Exit→Act→World→Prop}(ik:o.guard=none)(s x:Operand)
  (ho:o.op=.call {callee:=.builtin .append,args:=#[s,x],argTypes:=#[95,95]})
  {base:Nat} {w0:World} {v:Value} {rs:List (Int×Int×Int)} (p q r:Int) (ap:fD base w0 v rs) (hs:a.eval s=v) (hx:a.eval x=.slice (some ⟨w0.heap.size,0,none⟩) 1 1)
  (ah:rs.length<1048576) (hb:base≤w0.heap.size)
  (h:∀v' w',fD base w' v' (rs++[(p,q,r)])→Below base w0 w'→w0.heap.size≤w'.heap.size→wpList Tryz.prog ops Q rest (a.put o.dst v') w'):
  wpList Tryz.prog ops Q (o :: rest) a (w0.alloc (.cells #[.int .i64 p,.int .i64 q,.int .i64 r] 165)):=by
 obtain⟨i0,hi,KU⟩:=Option.map_eq_some_iff.1 aJU;simp only[Prod.mk.injEq]at KU;obtain⟨jh,gh,Af⟩:=KU;refine wpList_append_own _ ik s x 95 ho base 165 i0 _ 3 24 Tryz.underlying95 hi jh gh Af rfl (by decide) v _ _ hs (World.ownsRow.alloc ap _) ⟨w0.heap.size,0,none⟩ 1 1 [.int .i64 p,.int .i64 q,.int .i64 r] hx rfl ?_ ?_ ?_ ?_ ?_ ?_
 ·intro j u hj
  match j,hj with
  | 0,hj=>simp at hj;subst hj;simp[Addr.add,World.cell?_alloc_at]
  | 1,hj=>simp at hj;subst hj;simp[Addr.add,World.cell?_alloc_at]
  | 2,hj=>simp at hj;subst hj;simp[Addr.add,World.cell?_alloc_at]
 ·intro u hu;simp at hu;rcases hu with rfl | rfl | rfl<;>rfl
 ·unfold maxLen;omega
 ·omega
 ·simp;omega
 ·intro v' w' h1 h2 _
  have ao:Below base w0 w':=((bQ base w0).alloc hb _).grown h2 (by simp;omega) (fun k hk=>(ap.lt k hk).1);refine h v' w' ?_ ao (by have:=h2.size;simp at this;omega);unfold fD;rw[jU];simpa [eV] using h1
theorem fD.bump{base:Nat}{w:World}{a:Option Addr}{cap:Nat}{pre:List (Int×Int×Int)}{x y z:Int}(h:fD base w (.slice a (pre.length+1) cap) (pre++[(x,y,z)])):
  ∃g,a=some ⟨g,0,none⟩∧base≤g∧g<w.heap.size∧w.cell? ⟨g,pre.length*3+1,none⟩=some (.int .i64 y)∧w.frozen? ⟨g,pre.length*3+1,none⟩=false∧
   ∀u,fD base (w.setCell ⟨g,pre.length*3+1,none⟩ (.int .i64 u)) (.slice a (pre.length+1) cap) (pre++[(x,u,z)])∧Below base w (w.setCell ⟨g,pre.length*3+1,none⟩ (.int .i64 u)):=by
 have hl:(pre++[(x,y,z)]).length=pre.length+1:=by simp
 have h':w.ownsRow base 165 3 (.slice a (pre.length+1) cap) (pre.length+1) (eV (pre++[(x,y,z)])):=by rw[←hl];rw[←hl]at h;exact h
 have ai:=h'.lt;rcases h'.2 with⟨_,e⟩ | ⟨g,cap',cur,hv,e1,e2,e3⟩
 ·omega
 ·simp only[Value.slice.injEq,true_and]at hv
  obtain⟨rfl,rfl⟩:=hv;have bw:=uV (pre++[(x,y,z)]) pre.length (by simp);refine⟨g,rfl,e1,(ai g rfl).2,?_,h'.frozenAt _,fun u=>?_⟩
  ·rw[h'.cellAt _ (by omega),bw.2.1];simp
  ·obtain⟨s1,s2⟩:=h'.stored (pre.length*3+1) (.int .i64 u)
   refine⟨?_,(bQ base w).setCell (p:=⟨g,pre.length*3+1,none⟩) e1 _⟩;have he:(eV (pre++[(x,y,z)])).set (pre.length*3+1) (.int .i64 u)=eV (pre++[(x,u,z)]):=by
    rw[jU,jU,List.set_append_right _ _ (by rw[nG];omega),nG,show pre.length*3+1-pre.length*3=1 by omega];rfl
   rw[he]at s1;unfold fD;rw[show(pre++[(x,u,z)]).length=pre.length+1 by simp];exact s1
theorem belowA'(w:World)(o:Obj):Bl w (w.alloc o):=(bQ _ _).alloc (nR _) _
def bfr(zs:List Int)(k:Nat):Int:=if k=0 then 0 else zs.getD (k-1) 0
theorem xY(zs:List Int)(k:Nat):bfr zs (k+1)=zs.getD k 0:=by simp[bfr]
theorem rns_more'(zs:List Int)(k:Nat)(h:zs.getD k 0≠0)(he:zs.getD k 0=bfr zs k):
  ∃(pre:List (Int×Int×Int)) (a b c:Int),rns zs k=pre++[(a,b,c)]∧rns zs (k+1)=pre++[(a,b+1,c)]∧0≤b∧b≤k:=by
 match k with
 | 0=>exact absurd he h
 | k+1=>
  rw[xY]at he;obtain⟨pre,a,b,c,h1,h2,h3,h4⟩:=aHU zs k h he.symm;exact⟨pre,a,b,c,h1,h2,h3,by omega⟩
theorem aBN(v:Value)(zs:List Int)(w:World)(hv:Nts w v zs)(hl:zs.length≤512):
  Calls Tryz.prog 155 #[v] w fun e w'=>∃u,e=.returned u∧fD w.heap.size w' u (rns zs zs.length)∧Bl w w':=by
 obtain⟨a,cap,rfl,hc⟩:=hv.shape;go_enter Tryz.func155,Tryz.ntmps155;go_wp2;go_loopw [3,4,9] (fun u bf i wr=>∃k:Nat,k≤zs.length∧i=.int .i64 k∧bf=.int .i64 (bfr zs k)∧fD w.heap.size wr u (rns zs k)∧Bl w wr) (fun _ _ i _=>zs.length -(intOf i).toNat)
 case atStart=>exact⟨0,Nat.zero_le _,rfl,rfl,fD.start _ _,bQ _ _⟩
 case round=>
  obtain⟨k,hk,rfl,rfl,hR,hb⟩:=hrel;have qu:=sY zs k;obtain⟨ua,uc,Ek⟩:=hR.shape;subst Ek;have bd:=hb.size;by_cases ai:k<zs.length
  ·obtain⟨b,off,rfl,aa⟩:=hc (by omega)
   have lm:b<w.heap.size:=World.block_lt_of_cell? _ _ (aa 0 (by omega));have g1:wr.cell? ⟨b,off+k,none⟩=some (.int .i64 (zs.getD k 0)):=(hb.cell (p:=⟨b,off+k,none⟩) lm).trans (aa k ai);have HB:Hid (bfr zs (k+1)=zs.getD k 0):=xY zs k;clear hc aa hv;by_cases h0:zs.getD k 0=0
   ·have HR:Hid (rns zs (k+1)=rns zs k):=aHV zs k h0
    rw[h0]at g1 HB;clear h0;go_wp2;go_roundw
    case rel=>exact⟨k+1,by omega,by go_num,by rw[HB.out],by rw[HR.out];exact hR,hb⟩
    case measure=>simp[intOf];omega
   ·have M2:(zs.getD k 0 == 0)=false:=by simpa using h0
    by_cases he:zs.getD k 0=bfr zs k
    ·obtain⟨pre,x,y,z,e1,e2,R7,R8⟩:=rns_more' zs k h0 he
     have Et:Hid (rns zs (k+1)=pre++[(x,y+1,z)]):=e2;have Ky:(rns zs k).length=pre.length+1:=by rw[e1];simp
     rw[Ky]at hR qu;rw[Ky];rw[e1]at hR;rw[←he];obtain⟨g,rfl,iv,oa,c1,c2,Gl⟩:=hR.bump;have HU:Hid _:=Gl (y+1);have Qd:(zs.getD k 0 == zs.getD k 0)=true:=by simp
     have qf:(pre.length:Int) <((pre.length+1:Nat):Int):=by omega
     generalize zs.getD k 0=zk at *;clear hR Gl he h0 e1 e2 Ky;go_wp2;go_roundw
     case rel=>exact⟨k+1,by omega,by go_num,by rw[HB.out],by rw[Et.out];exact HU.out.1,hb.trans HU.out.2⟩
     case measure=>simp[intOf];omega
    ·have av:(zs.getD k 0 == bfr zs k)=false:=by simpa using he
     have Et:Hid (rns zs (k+1)=rns zs k++[((k:Int),1,zs.getD k 0)]):=aKK zs k h0 (by
      unfold bfr at he;by_cases gp:k=0
      ·exact .inl gp
      ·rw[if_neg gp]at he;exact .inr (Ne.symm he))
     have ym:(rns zs k).length<1048576:=by omega
     generalize zs.getD k 0=zk at *;generalize bfr zs k=bk at *;clear h0 he;go_wp2_with (first | (at_builtin;refine dR rfl _ _ rfl _ _ _ hR rfl rfl ym bd ?_;intro v' w1 iq ao jx) | go_in);rw[←Et.out]at iq;go_roundw
     case rel=>exact⟨k+1,by omega,by go_num,by rw[HB.out],iq,hb.trans ao⟩
     case measure=>simp[intOf];omega
  ·have RE:k=zs.length:=by omega
   subst RE;clear hc hv;go_wp2;go_ret;exact⟨_,rfl,hR,hb⟩
theorem aLC{zs:List Int}{i:Nat}(h:¬(zs.getD i 0≠0∧(i=0∨zs.getD (i-1) 0≠zs.getD i 0))):st zs i=false:=by
 rw[←Bool.not_eq_true,kH];exact h
theorem aBD(v:Value)(zs:List Int)(w:World)(hv:Nts w v zs)(hl:zs.length≤512):
  Calls Tryz.prog 85 #[v] w fun e w'=>∃u,e=.returned u∧fD w.heap.size w' u (rns zs zs.length)∧Bl w w':=by
 obtain⟨a,cap,rfl,hc⟩:=hv.shape;go_enter Tryz.func85,Tryz.ntmps85;go_wp2;go_loopw [3,4] (fun u i wr=>∃k:Nat,k≤zs.length∧i=.int .i64 k∧fD w.heap.size wr u (srn zs zs.length k)∧Bl w wr) (fun _ i _=>zs.length -(intOf i).toNat)
 case atStart=>exact⟨0,Nat.zero_le _,rfl,fD.lit _ _ (nR _) _ rfl,belowA' _ _⟩
 case round=>
  obtain⟨k,hk,rfl,hR,hb⟩:=hrel;have qu:=aBR zs zs.length k;obtain⟨ua,uc,Ek⟩:=hR.shape;subst Ek;have bd:=hb.size;by_cases ai:k<zs.length
  ·obtain⟨b,off,rfl,aa⟩:=hc (by omega)
   have lm:b<w.heap.size:=World.block_lt_of_cell? _ _ (aa 0 (by omega));have OO:∀j,j<zs.length→wr.cell? ⟨b,off+j,none⟩=some (.int .i64 (zs.getD j 0)):=fun j hj=>(hb.cell (p:=⟨b,off+j,none⟩) lm).trans (aa j hj);have g1:=OO k ai;have No:Hid (∀j,j<zs.length→wr.cell? ⟨b,off+j,none⟩=some (.int .i64 (zs.getD j 0))):=OO;obtain⟨zk,HZ⟩:∃z,Hid (zs.getD k 0=z):=⟨_,rfl⟩;rw[HZ.out]at g1;clear OO;have hi:(k:Int) <(zs.length:Int):=by omega
   clear hc aa hv;by_cases h0:zs.getD k 0=0
   ·have HR:Hid (srn zs zs.length (k+1)=srn zs zs.length k):=aIH _ _ _ (aLC fun h=>h.1 h0)
    rw[HZ.out]at h0;subst h0;go_wp2;go_quiet (fail);go_wp2;go_roundw
    case rel=>exact⟨k+1,by omega,by go_num,by rw[HR.out];exact hR,below_drewN hb _⟩
    case measure=>simp[intOf];omega
   ·have M2:(zk == 0)=false:=by rw[←HZ.out];simpa using h0
    by_cases hgo:0<k∧zs.getD (k-1) 0=zs.getD k 0
    ·have HR:Hid (srn zs zs.length (k+1)=srn zs zs.length k):=aIH _ _ _ (aLC fun h=>by
      rcases h.2 with e | e
      ·omega
      ·exact e hgo.2)
     have gp:=hgo.1;have bh:IntKind.i64.wrap ((k:Int)-1)=((k-1:Nat):Int):=(IntWalk.i64_in _ ⟨by omega,by omega⟩).trans (by omega);have jd:((k-1:Nat):Int) <(zs.length:Int):=by omega
     have g2:=No.out (k-1) (by omega);rw[hgo.2,HZ.out]at g2;have Qd:(zk == zk)=true:=by simp
     generalize k-1=k1 at *;clear hgo h0;go_wp2;go_quiet (fail);go_wp2;go_roundw
     case rel=>exact⟨k+1,by omega,by go_num,by rw[HR.out];exact hR,below_drewN hb _⟩
     case measure=>simp[intOf];omega
    ·have qh:st zs k=true:=kH.2 ⟨h0,by
      by_cases gp:k=0
      ·exact .inl gp
      ·exact .inr fun e=>hgo ⟨by omega,e⟩⟩
     by_cases gp:0<k
     ·have YM:(zs.getD (k-1) 0 == zk)=false:=by rw[←HZ.out];simpa using fun e=>hgo ⟨gp,e⟩
      have bh:IntKind.i64.wrap ((k:Int)-1)=((k-1:Nat):Int):=(IntWalk.i64_in _ ⟨by omega,by omega⟩).trans (by omega);have jd:((k-1:Nat):Int) <(zs.length:Int):=by omega
      have g2:=No.out (k-1) (by omega);generalize zs.getD (k-1) 0=zj at *;generalize k-1=k1 at *;have qm:Hid (st zs k=true):=qh;have H3:Hid (∀n,fD w.heap.size (wr.drewN n) (.slice ua (srn zs zs.length k).length uc) (srn zs zs.length k)):=fun _=>hR;clear hgo h0 qh hR;go_wp2;go_quiet (fail);go_wp2;go_loopw [5,6] (fun n i w2=>∃m:Nat,k+m≤zs.length∧i=.int .i64 ((k+m:Nat):Int)∧n=.int .i64 m∧chQ zs k m=m∧∃q,w2=wr.drewN q) (fun _ i _=>zs.length -(intOf i).toNat)
      case atStart=>exact⟨0,by omega,rfl,rfl,rfl,_,rfl⟩
      case round=>
       obtain⟨m,hm,rfl,rfl,As,q,rfl⟩:=hrel;by_cases hlt2:k+m<zs.length
       ·have g3:=No.out (k+m) hlt2
        by_cases vj:zs.getD (k+m) 0=zs.getD k 0
        ·have o9:chQ zs k (m+1)=m+1:=by simp only[chQ];rw[if_pos ⟨As,vj⟩]
         have Qd:(zk == zk)=true:=by simp
         rw[vj,HZ.out]at g3;have Kv:((k+m:Nat):Int) <(zs.length:Int):=by omega
         have HM:Hid (k+(m+1)=k+m+1):=rfl;generalize EV:k+m=km at *;clear As vj;go_wp2;go_quiet (fail);go_wp2;go_roundw
         case rel=>exact⟨m+1,by omega,by go_num,by go_num,o9,_,rfl⟩
         case measure=>simp[intOf];omega
        ·have M5:(zs.getD (k+m) 0 == zk)=false:=by rw[←HZ.out];simpa using vj
         have o9:chQ zs k (zs.length-k)=m:=by
          have:=wB As vj (zs.length-k-m)
          rwa [show m+(zs.length-k-m)=zs.length-k by omega]at this
         have mf:Hid (srn zs zs.length (k+1)=srn zs zs.length k++[((k:Int),(m:Int),zk)]):=by rw[←o9,←HZ.out];exact qQ _ _ _ qm.out
         have Kv:((k+m:Nat):Int) <(zs.length:Int):=by omega
         have ym:(srn zs zs.length k).length<1048576:=by omega
         generalize EV:k+m=km at *;generalize zs.getD km 0=zm at *;clear As vj o9;go_wp2;go_quiet (fail);go_wp2_with (first | (at_builtin;refine dR rfl _ _ rfl _ _ _ (H3.out _) rfl rfl ym bd ?_;intro v' w1 iq ao jx) | go_in);rw[←mf.out]at iq;go_roundw
         case rel=>exact⟨k+1,by omega,by go_num,iq,(below_drewN hb _).trans ao⟩
         case measure=>simp[intOf];omega
       ·have o9:chQ zs k (zs.length-k)=m:=by rw[show zs.length-k=m by omega];exact As
        have mf:Hid (srn zs zs.length (k+1)=srn zs zs.length k++[((k:Int),(m:Int),zk)]):=by rw[←o9,←HZ.out];exact qQ _ _ _ qm.out
        have ym:(srn zs zs.length k).length<1048576:=by omega
        have Kv:¬((k+m:Nat):Int) <(zs.length:Int):=by omega
        generalize EV:k+m=km at *;clear As o9;go_wp2;go_quiet (fail);go_wp2_with (first | (at_builtin;refine dR rfl _ _ rfl _ _ _ (H3.out _) rfl rfl ym bd ?_;intro v' w1 iq ao jx) | go_in);rw[←mf.out]at iq;go_roundw
        case rel=>exact⟨k+1,by omega,by go_num,iq,(below_drewN hb _).trans ao⟩
        case measure=>simp[intOf];omega
     ·have RA:k=0:=by omega
      have YI:¬(0:Int) <(k:Int):=by omega
      have qm:Hid (st zs k=true):=qh;have H3:Hid (∀n,fD w.heap.size (wr.drewN n) (.slice ua (srn zs zs.length k).length uc) (srn zs zs.length k)):=fun _=>hR;clear hgo h0 qh hR RA;go_wp2;go_quiet (fail);go_wp2;go_loopw [5,6] (fun n i w2=>∃m:Nat,k+m≤zs.length∧i=.int .i64 ((k+m:Nat):Int)∧n=.int .i64 m∧chQ zs k m=m∧∃q,w2=wr.drewN q) (fun _ i _=>zs.length -(intOf i).toNat)
      case atStart=>exact⟨0,by omega,rfl,rfl,rfl,_,rfl⟩
      case round=>
       obtain⟨m,hm,rfl,rfl,As,q,rfl⟩:=hrel;by_cases hlt2:k+m<zs.length
       ·have g3:=No.out (k+m) hlt2
        by_cases vj:zs.getD (k+m) 0=zs.getD k 0
        ·have o9:chQ zs k (m+1)=m+1:=by simp only[chQ];rw[if_pos ⟨As,vj⟩]
         have Qd:(zk == zk)=true:=by simp
         rw[vj,HZ.out]at g3;have Kv:((k+m:Nat):Int) <(zs.length:Int):=by omega
         have HM:Hid (k+(m+1)=k+m+1):=rfl;generalize EV:k+m=km at *;clear As vj;go_wp2;go_quiet (fail);go_wp2;go_roundw
         case rel=>exact⟨m+1,by omega,by go_num,by go_num,o9,_,rfl⟩
         case measure=>simp[intOf];omega
        ·have M5:(zs.getD (k+m) 0 == zk)=false:=by rw[←HZ.out];simpa using vj
         have o9:chQ zs k (zs.length-k)=m:=by
          have:=wB As vj (zs.length-k-m)
          rwa [show m+(zs.length-k-m)=zs.length-k by omega]at this
         have mf:Hid (srn zs zs.length (k+1)=srn zs zs.length k++[((k:Int),(m:Int),zk)]):=by rw[←o9,←HZ.out];exact qQ _ _ _ qm.out
         have Kv:((k+m:Nat):Int) <(zs.length:Int):=by omega
         have ym:(srn zs zs.length k).length<1048576:=by omega
         generalize EV:k+m=km at *;generalize zs.getD km 0=zm at *;clear As vj o9;go_wp2;go_quiet (fail);go_wp2_with (first | (at_builtin;refine dR rfl _ _ rfl _ _ _ (H3.out _) rfl rfl ym bd ?_;intro v' w1 iq ao jx) | go_in);rw[←mf.out]at iq;go_roundw
         case rel=>exact⟨k+1,by omega,by go_num,iq,(below_drewN hb _).trans ao⟩
         case measure=>simp[intOf];omega
       ·have o9:chQ zs k (zs.length-k)=m:=by rw[show zs.length-k=m by omega];exact As
        have mf:Hid (srn zs zs.length (k+1)=srn zs zs.length k++[((k:Int),(m:Int),zk)]):=by rw[←o9,←HZ.out];exact qQ _ _ _ qm.out
        have ym:(srn zs zs.length k).length<1048576:=by omega
        have Kv:¬((k+m:Nat):Int) <(zs.length:Int):=by omega
        generalize EV:k+m=km at *;clear As o9;go_wp2;go_quiet (fail);go_wp2_with (first | (at_builtin;refine dR rfl _ _ rfl _ _ _ (H3.out _) rfl rfl ym bd ?_;intro v' w1 iq ao jx) | go_in);rw[←mf.out]at iq;go_roundw
        case rel=>exact⟨k+1,by omega,by go_num,iq,(below_drewN hb _).trans ao⟩
        case measure=>simp[intOf];omega
  ·have RE:k=zs.length:=by omega
   subst RE;rw[aKP]at hR;clear hc hv;go_wp2;go_ret;exact⟨_,rfl,hR,hb⟩
