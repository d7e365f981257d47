import Derived.Test.YtaahkgkdpnnhhaaGreatRows
import Derived.WalkKit
import Derived.Orders
import Derived.WalkSpells
import Derived.WalkLawsBesides
import Derived.Deep.QuietTactic
import Derived.BigQuiet
import Derived.Deep.OwnRows
import Derived.Test.YtaahkgkdpnnhhaaGreatProg
import Derived.Laws.BytesString
import Derived.OrdersHeld
import Derived.Deep.RegionHeld
import Derived.Shelf.SortG.Plain
import Derived.Deep.RegionWith
import Derived.Test.YtaahkgkdpnnhhaaGreatSh0
set_option maxHeartbeats 9999999
set_option maxRecDepth 99999
set_option linter.all false
namespace Go.Proofs.YtaahkgkdpnnhhaaGreat
open Go.RowKit
section
variable {P : Program} {ops : Array Oper} {Q : Exit → Act → World → Prop} {md : Region.Mode}
def aIJ(md:Region.Mode)(ops:Array Oper)(l:Array Bool):Prop:=∀k,l.getD k false=true→∀o,ops[k]?=some o→∀e∈o.after,Region.binds md e=true→l.getD e.on false=true
theorem aFD(I:Array Bool→Act→World→Prop)
  (NN:∀l a w,l.size=ops.size→aIJ md ops l→I l a w→∀i o,ops[i]?=some o→l.getD i true=false→l.getD i false=false→(∀e∈o.after,Region.binds md e=true→l.getD e.on false=true)→wpOp P ops Q i (fun a' w'=>I (l.setIfInBounds i true) a' w') a w)
  (MU:∀l a w,l.size=ops.size→I l a w→(∀i,i<ops.size→l.getD i false=true)→Q .normal a w)
  (Rs:∀l:Array Bool,l.size=ops.size→Region.ready md ops l=[]→∀i,i<ops.size→l.getD i false=true):
  ∀(fuel:Nat) (l:Array Bool) (a:Act) (w:World),l.size=ops.size→aIJ md ops l→l.toList.count false=fuel→I l a w→wpAny P md ops Q fuel l a w:=by
 intro fuel;induction fuel with
 | zero=>
  intro l a w hs _ hc hI;have ay:∀i,i<ops.size→l.getD i false=true:=fun i hi=>by
   have ew:i<l.size:=by omega
   cases hb:l[i]with
   | true=>simp[ew,hb]
   | false=>
    exfalso
    have hm:false∈l.toList:=by rw[←hb];exact Array.getElem_mem_toList ew
    have:=List.count_pos_iff.2 hm
    omega
  have hr:Region.ready md ops l=[]:=by
   cases nu:Region.ready md ops l with
   | nil=>rfl
   | cons j r=>
    exfalso
    obtain⟨h1,o,ho,_⟩:=mem_ready.1 (show j∈Region.ready md ops l by rw[nu];simp);have hj:j<ops.size:=(Array.getElem?_eq_some_iff.1 ho).1;have h2:=ay j hj;have xx:j<l.size:=by omega
    simp[xx]at h1 h2
    rw[h1]at h2;cases h2
  exact⟨hr,MU l a w hs hI ay⟩
 | succ fuel ih=>
  intro l a w hs au hc hI;refine⟨fun hr=>MU l a w hs hI (Rs l hs hr),fun i hi=>?_⟩;obtain⟨h1,o,ho,hd⟩:=mem_ready.1 hi;have YE:i<ops.size:=(Array.getElem?_eq_some_iff.1 ho).1;have ew:i<l.size:=by omega
  have Au:l[i]=false:=by simpa [ew] using h1
  have N3:l.getD i false=false:=by simp[ew,Au]
  refine wpOp_mono (fun a' w' VN=>ih (l.setIfInBounds i true) a' w' (by simpa using hs) ?_ ?_ VN) (NN l a w hs au hI i o ho h1 N3 hd)
  ·intro k hk o' GC e he hb
   by_cases lm:i=k
   ·subst lm
    obtain rfl:=Option.some.inj (ho.symm.trans GC);exact getD_set_true (hd e he hb)
   ·rw[getD_set_ne false lm]at hk
    exact getD_set_true (au k hk o' GC e he hb)
  ·have ai:i<l.toList.length:=by simpa using ew
   rw[Array.toList_setIfInBounds,List.count_set ai];have:l.toList[i]=false:=by simpa using Au
   have jg:Array.count false l=fuel+1:=by simpa using hc
   simp[this,jg]
theorem aAD(ai:∀(k:Nat) (o:Oper),ops[k]?=some o→∀e∈o.after,e.on<k)(l:Array Bool)(hs:l.size=ops.size)(hr:Region.ready md ops l=[]):∀i,i<ops.size→l.getD i false=true:=by
 intro i;induction i using Nat.strongRecOn with
 | ind i ih=>
  intro hi;have ew:i<l.size:=by omega
  cases hb:l[i]with
  | true=>simp[ew,hb]
  | false=>
   exfalso
   have:i∈Region.ready md ops l:=mem_ready.2 ⟨by simp[ew,hb],ops[i],Array.getElem?_eq_getElem hi,fun e he _=>by
    have:=ai i _ (Array.getElem?_eq_getElem hi) e he
    exact ih e.on this (by omega)⟩
   rw[hr]at this;cases this
theorem aFN(h:(ops.toList.zipIdx.all fun p=>p.1.after.toList.all fun e=>decide (e.on<p.2))=true)(k:Nat)(o:Oper)(ho:ops[k]?=some o):∀e∈o.after,e.on<k:=fun e he=>by
 have hm:(o,k)∈ops.toList.zipIdx:=by
  rw[List.mem_zipIdx_iff_getElem?];simpa using ho
 have h1:=List.all_eq_true.1 h _ hm;exact of_decide_eq_true (List.all_eq_true.1 h1 e (by simpa using he))
theorem eA{i:Nat}{o:Oper}{K:Act→World→Prop}{a:Act}{w:World}(ho:ops[i]?=some o)(hg:o.guard=none)(h:o.wp P a w K Q):wpOp P ops Q i K a w:=by
 unfold wpOp;simp only[ho];rw[if_pos (by simp[Region.wanted,hg])];exact .inl h
end
end Go.Proofs.YtaahkgkdpnnhhaaGreat
namespace Go.Proofs.YtaahkgkdpnnhhaaGreat
open Go.RowKit
structure Upd(lo hi:Nat)(w w':World):Prop where
 os:w'.os=w.os
 tape:w'.tape=w.tape
 output:w'.output=w.output
 size:w.heap.size≤w'.heap.size
 block:∀k,k<w.heap.size→(k<lo∨hi≤k)→w'.heap[k]?=w.heap[k]?
theorem Upd.refl(lo hi:Nat)(w:World):Upd lo hi w w:=⟨rfl,rfl,rfl,nR _,fun _ _ _=>rfl⟩
theorem Upd.trans{lo hi:Nat}{a b c:World}(h:Upd lo hi a b)(k:Upd lo hi b c):Upd lo hi a c:=
 ⟨k.os.trans h.os,k.tape.trans h.tape,k.output.trans h.output,lT h.size k.size,fun i am hn=>(k.block i (lL am h.size) hn).trans (h.block i am hn)⟩
theorem Upd.below{lo hi B:Nat}{w w':World}(h:Upd lo hi w w')(h1:B≤lo)(h2:B≤w.heap.size):Below B w w':=
 ⟨h.os,h.tape,h.output,h.size,fun k hk=>h.block k (by omega) (by omega)⟩
theorem Upd.setCell{lo hi:Nat}{a w:World}(h:Upd lo hi a w){p:Addr}(h1:lo≤p.block)(h2:p.block<hi)(u:Value):Upd lo hi a (w.setCell p u):=
 h.trans ⟨rfl,rfl,rfl,by simp,fun k _ hn=>Below.heap_setCell w p u k (by omega)⟩
def inB(v lo hi:Int):Bool:=decide (lo≤v∧v≤hi)
theorem nK{v lo hi:Int}(h:lo≤v∧v≤hi):inB v lo hi=true:=by simp[inB,h]
theorem iH{v lo hi:Int}(h:¬(lo≤v∧v≤hi)):inB v lo hi=false:=by simp only[inB];exact decide_eq_false h
theorem eR(v lo hi:Int)(w:World):
  Calls Tryz.prog 55 #[.int .i64 v,.int .i64 lo,.int .i64 hi] w fun e w'=>e=.returned (.bool (inB v lo hi))∧w=w':=by
 by_cases h1:lo≤v
 ·by_cases h2:v≤hi
  ·rw[nK ⟨h1,h2⟩]
   go_enter Tryz.func55,Tryz.ntmps55
   go_wp2
   go_ret
   exact⟨rfl,rfl⟩
  ·rw[iH (by omega)]
   go_enter Tryz.func55,Tryz.ntmps55
   go_wp2
   go_ret
   exact⟨rfl,rfl⟩
 ·rw[iH (by omega)]
  go_enter Tryz.func55,Tryz.ntmps55
  go_wp2
  go_ret
  exact⟨rfl,rfl⟩
theorem iM(v:Int)(w:World):
  Calls Tryz.prog 49 #[.int .i64 v] w fun e w'=>e=.returned (.bool (inB v 8 512))∧w=w':=by
 by_cases h1:8≤v
 ·by_cases h2:v≤512
  ·rw[nK ⟨h1,h2⟩]
   go_enter Tryz.func49,Tryz.ntmps49
   go_wp2
   go_ret
   exact⟨rfl,rfl⟩
  ·rw[iH (by omega)]
   go_enter Tryz.func49,Tryz.ntmps49
   go_wp2
   go_ret
   exact⟨rfl,rfl⟩
 ·rw[iH (by omega)]
  go_enter Tryz.func49,Tryz.ntmps49
  go_wp2
  go_ret
  exact⟨rfl,rfl⟩
def dgt(x:Int):ByteArray:=ByteArray.empty.push (UInt8.ofNat x.toNat)
theorem aGA(x:Int):(dgt x).size=1:=by simp[dgt,ByteArray.size_push]
theorem aJB(w:World)(x:Int):(convert 105 9 (.slice (some ⟨w.heap.size,0,none⟩) 1 1)).run Tryz.prog (w.alloc (.cells #[.int .u8 x] 5))=.ok (.string (dgt x)) (w.alloc (.cells #[.int .u8 x] 5)):=by
 rw[run_convert_bytes_string _ 105 9 5 _ _ _ Tryz.underlying105 Tryz.underlying5 Tryz.underlying9];rw[run_bytesToString _ _ 1 1 [x] ?_]
 ·rfl
 ·refine run_loadCells_list _ _ ([x].map (Value.int .u8)) ?_
  intro j v hj;match j,hj with
  | 0,hj=>simp at hj;subst hj;simp[Addr.add,World.cell?_alloc_at]
def zF:Nat→Nat→ByteArray→ByteArray
 | 0,_,out=>out
 | n+1,k,out=>if 0<k then zF n (k / 10) (dgt (48+(k:Int) % 10)++out)else out
theorem vI:∀(n m k:Nat) (out:ByteArray),k≤n→k≤m→zF n k out=zF m k out
 | 0,m,k,out,h,_=>by
  obtain rfl:k=0:=by omega
  cases m with
  | zero=>rfl
  | succ m=>unfold zF;rw[if_neg (by omega)]
 | n+1,m,k,out,h,h2=>by
  cases m with
  | zero=>
   obtain rfl:k=0:=by omega
   unfold zF;rw[if_neg (by omega)]
  | succ m=>
   unfold zF;by_cases q:0<k
   ·rw[if_pos q,if_pos q];exact vI n m (k / 10) _ (by omega) (by omega)
   ·rw[if_neg q,if_neg q]
def mkD(k:Nat)(out:ByteArray):ByteArray:=zF k k out
theorem aHJ{k:Nat}(h:0<k)(out:ByteArray):mkD k out=mkD (k / 10) (dgt (48+(k:Int) % 10)++out):=by
 unfold mkD;obtain⟨n,rfl⟩:∃n,k=n+1:=⟨k-1,by omega⟩;rw[zF,if_pos h];exact vI _ _ _ _ (by omega) (by omega)
theorem aJQ(out:ByteArray):mkD 0 out=out:=rfl
def mkT(k:Nat):ByteArray:={data:=#[109]}++mkD k {data:=#[]}
theorem wV(k:Nat)(w:World)(hk:1≤k)(AM:k≤1000000000):
  Calls Tryz.prog 38 #[.int .i64 k] w fun e w'=>e=.returned (.string (mkT k))∧Bl w w':=by
 go_enter Tryz.func38,Tryz.ntmps38
 go_wp2
 go_loopw [0,3] (fun kk out wr=>∃(j:Nat) (t:ByteArray),kk=.int .i64 j∧out=.string t∧t.size+j≤1000000000∧Hid (mkD j t=mkD k {data:=#[]})∧Bl w wr) (fun kk _ _=>(intOf kk).toNat)
 case atStart=>exact⟨k,_,rfl,rfl,by rw[show(ByteArray.mk #[]).size=0 from rfl];omega,rfl,bQ _ _⟩
 case round=>
  obtain⟨j,t,rfl,rfl,hj,HM,hb⟩:=hrel;by_cases h0:0<j
  ·have sf:=aJB wr (48+(j:Int) % 10)
   have iv:=aGA (48+(j:Int) % 10);go_wp2;go_roundw
   case rel=>
    refine⟨j / 10,_,by go_num,rfl,?_,?_,hb.alloc hb.size _⟩
    ·rw[ByteArray.size_append,iv];omega
    ·exact(aHJ h0 t).symm.trans HM.out
   case measure=>simp[intOf];omega
  ·have AL:j=0:=by omega
   subst AL;go_wp2;go_ret;have:=HM.out;rw[aJQ]at this;exact⟨by rw[mkT,←this];rfl,hb⟩
theorem nX(x:Int)(w:World)(hk:1≤x)(AM:x≤1000000000):
  Calls Tryz.prog 38 #[.int .i64 x] w fun e w'=>e=.returned (.string (mkT x.toNat))∧Bl w w':=by
 have:=wV x.toNat w (by omega) (by omega)
 rw[show((x.toNat:Nat):Int)=x by omega]at this;exact this
theorem rX:(Tryz.prog.info? 2).map (fun i=>(i.zero,i.size,i.bytes))=some (some (.int .i64 0),1,8):=by kernel_rfl
def dG(zs:List Int):Array Value:=(zs.map (Value.int .i64)).toArray
structure Nts(w:World)(v:Value)(zs:List Int):Prop where
 small:∀i,-9223372036854775808≤zs.getD i 0∧zs.getD i 0≤9223372036854775807
 shape:∃a cap,v=.slice a zs.length cap∧(0<zs.length→∃b off,a=some ⟨b,off,none⟩∧∀i,i<zs.length→w.cell? ⟨b,off+i,none⟩=some (.int .i64 (zs.getD i 0)))
theorem Nts.kept{w w':World}{v:Value}{zs:List Int}(h:Nts w v zs)(k:∀b o,b<w.heap.size→w'.cell? ⟨b,o,none⟩=w.cell? ⟨b,o,none⟩):Nts w' v zs:=by
 obtain⟨a,cap,hv,hc⟩:=h.shape;refine⟨h.small,a,cap,hv,fun hp=>?_⟩;obtain⟨b,off,ha,aa⟩:=hc hp;exact⟨b,off,ha,fun i hi=>(k b _ (World.block_lt_of_cell? _ _ (aa i hi))).trans (aa i hi)⟩
theorem Nts.below{w w':World}{v:Value}{zs:List Int}(h:Nts w v zs)(k:Bl w w'):Nts w' v zs:=
 h.kept fun b o hb=>k.cell (p:=⟨b,o,none⟩) hb
theorem Nts.alloc{w:World}{v:Value}{zs:List Int}(h:Nts w v zs)(o:Obj):Nts (w.alloc o) v zs:=
 h.kept fun _ _ hb=>World.cell?_alloc_past _ _ _ hb
structure cF(lo hi:Nat)(w:World)(v:Value)(zs:List Int):Prop where
 small:∀i,-9223372036854775808≤zs.getD i 0∧zs.getD i 0≤9223372036854775807
 shape:∃a cap,v=.slice a zs.length cap∧(0<zs.length→∃b off,a=some ⟨b,off,none⟩∧lo≤b∧b<hi∧b<w.heap.size∧∀i,i<zs.length→w.cell? ⟨b,off+i,none⟩=some (.int .i64 (zs.getD i 0))∧w.frozen? ⟨b,off+i,none⟩=false)
theorem cF.nts{lo hi:Nat}{w:World}{v:Value}{zs:List Int}(h:cF lo hi w v zs):Nts w v zs:=by
 obtain⟨a,cap,hv,hc⟩:=h.shape;refine⟨h.small,a,cap,hv,fun hp=>?_⟩;obtain⟨b,off,ha,_,_,_,aa⟩:=hc hp;exact⟨b,off,ha,fun i hi=>(aa i hi).1⟩
theorem cF.kept{lo hi:Nat}{w w':World}{v:Value}{zs:List Int}(h:cF lo hi w v zs)(hs:w.heap.size≤w'.heap.size)(k:∀b,lo≤b→b<hi→b<w.heap.size→w'.heap[b]?=w.heap[b]?):cF lo hi w' v zs:=by
 obtain⟨a,cap,hv,hc⟩:=h.shape;refine⟨h.small,a,cap,hv,fun hp=>?_⟩;obtain⟨b,off,ha,h1,h2,h3,aa⟩:=hc hp;have e:=k b h1 h2 h3;refine⟨b,off,ha,h1,h2,by omega,fun i hi=>?_⟩;rw[World.cell?_of_block (w:=w) (w':=w') (a:=⟨b,off+i,none⟩) e,World.frozen?_of_block (w:=w) (w':=w') (a:=⟨b,off+i,none⟩) e];exact aa i hi
theorem cF.upd{lo hi lo' am:Nat}{w w':World}{v:Value}{zs:List Int}(h:cF lo hi w v zs)(k:Upd lo' am w w')(hd:hi≤lo'∨am≤lo):cF lo hi w' v zs:=
 h.kept k.size fun b h1 h2 h3=>k.block b h3 (by omega)
theorem cF.below{lo hi:Nat}{w w':World}{v:Value}{zs:List Int}(h:cF lo hi w v zs)(k:Bl w w'):cF lo hi w' v zs:=
 h.kept k.size fun b _ _ h3=>k.block b h3
theorem cF.empty(lo hi:Nat)(w:World)(a:Option Addr)(cap:Nat):cF lo hi w (.slice a 0 cap) []:=
 ⟨fun i=>by simp,a,cap,rfl,fun h=>by simp at h⟩
theorem cF.of_row{w:World}{base:Nat}{v:Value}{zs:List Int}(h:w.ownsRow base 2 1 v zs.length (zs.map (Value.int .i64)))(hz:∀i,-9223372036854775808≤zs.getD i 0∧zs.getD i 0≤9223372036854775807):cF base w.heap.size w v zs:=by
 rcases h.2 with⟨hv,hn⟩ | ⟨g,cap,cur,hv,hb,hg,AS,Cu,g8,htake⟩
 ·refine⟨hz,none,0,by rw[hv,hn],fun hp=>by omega⟩
 ·subst hv
  have ai:g<w.heap.size:=by
   by_cases hh:g<w.heap.size
   ·exact hh
   ·simp[show w.heap.size≤g by omega]at hg
  refine⟨hz,_,_,rfl,fun hp=>⟨g,0,rfl,hb,ai,ai,fun i hi=>?_⟩⟩;rw[Nat.zero_add];refine⟨?_,h.frozenAt i⟩;rw[h.cellAt i (by omega)];simp[hi]
def dH(base:Nat)(w:World)(v:Value)(zs:List Int):Prop:=w.ownsRow base 2 1 v zs.length (zs.map (Value.int .i64))
theorem dH.own{base:Nat}{w:World}{v:Value}{zs:List Int}(h:dH base w v zs)(hz:∀i,-9223372036854775808≤zs.getD i 0∧zs.getD i 0≤9223372036854775807):cF base w.heap.size w v zs:=cF.of_row h hz
theorem dH.shape{base:Nat}{w:World}{v:Value}{zs:List Int}(h:dH base w v zs):∃a cap,v=.slice a zs.length cap:=by
 rcases h.2 with⟨hv,hn⟩ | ⟨g,cap,cur,hv,_⟩
 ·exact⟨none,0,by rw[hv,hn]⟩
 ·exact⟨_,_,hv⟩
theorem dH.start(base:Nat)(w:World):dH base w (.slice none 0 0) []:=World.ownsRow_nil w base 2 1
theorem dH.lit(base:Nat)(w:World)(hb:base≤w.heap.size)(g:Nat)(hg:g=w.heap.size):dH base (w.alloc (.cells #[] 2)) (.slice (some ⟨g,0,none⟩) 0 0) []:=by
 subst hg;exact World.ownsRow_lit (e:=2) (size:=1) w #[] 0 hb (by decide) rfl
theorem kI{ops:Array Oper}{rest:List Oper}{o:Oper}{a:Act}{Q:Exit→Act→World→Prop}(ie:o.guard=none)(s x:Operand)
  (ho:o.op=.call {callee:=.builtin .append,args:=#[s,x],argTypes:=#[24,24]})
  {base:Nat} {w0:World} {v:Value} {zs:List Int} (c:Int) (ap:dH base w0 v zs) (hs:a.eval s=v) (hx:a.eval x=.slice (some ⟨w0.heap.size,0,none⟩) 1 1)
  (ah:zs.length<8589934592) (hb:base≤w0.heap.size)
  (h:∀v' w',dH base w' v' (zs++[c])→Below base w0 w'→w0.heap.size≤w'.heap.size→(w0.alloc (.cells #[.int .i64 c] 2)).grownBy w' v.ownBlock→wpList Tryz.prog ops Q rest (a.put o.dst v') w'):
  wpList Tryz.prog ops Q (o :: rest) a (w0.alloc (.cells #[.int .i64 c] 2)):=by
 obtain⟨i0,hi,jl,fz,Ae⟩:=info_parts rX;refine wpList_append_own _ ie s x 24 ho base 2 i0 (.int .i64 0) 1 8 Tryz.underlying24 hi jl fz Ae rfl (by decide) v _ _ hs (ap.alloc _) ⟨w0.heap.size,0,none⟩ 1 1 [.int .i64 c] hx rfl ?_ ?_ ?_ ?_ ?_ ?_
 ·intro j u hj
  match j,hj with
  | 0,hj=>simp at hj;subst hj;simp[Addr.add,World.cell?_alloc_at]
 ·intro u hu;simp at hu;subst hu;rfl
 ·unfold maxLen;omega
 ·omega
 ·simp;omega
 ·intro v' w' h1 h2 _
  have ao:Below base w0 w':=((bQ base w0).alloc hb _).grown h2 (by simp;omega) (fun k hk=>(ap.lt k hk).1);refine h v' w' ?_ ao (by have:=h2.size;simp at this;omega) h2;unfold dH;simpa using h1
theorem cF.stored{lo hi:Nat}{w:World}{b off n cap:Nat}{zs:List Int}(h:cF lo hi w (.slice (some ⟨b,off,none⟩) n cap) zs)(j:Nat)(hj:j<n)(x:Int)(hx:-9223372036854775808≤x∧x≤9223372036854775807):
  cF lo hi (w.setCell ⟨b,off+j,none⟩ (.int .i64 x)) (.slice (some ⟨b,off,none⟩) n cap) (zs.set j x)∧Upd lo hi w (w.setCell ⟨b,off+j,none⟩ (.int .i64 x)):=by
 obtain⟨a,cap',hv,hc⟩:=h.shape;simp only[Value.slice.injEq]at hv;obtain⟨rfl,rfl,rfl⟩:=hv;obtain⟨b',off',ha,h1,h2,h3,aa⟩:=hc (by omega);simp only[sJ,Addr.mk.injEq,and_true]at ha;obtain⟨rfl,rfl⟩:=ha;refine⟨⟨fun i=>?_,_,_,by rw[List.length_set],fun _=>⟨b,off,rfl,h1,h2,by simpa using h3,fun i hi=>?_⟩⟩,(Upd.refl _ _ _).setCell h1 h2 _⟩
 ·have hs:=h.small i
  simp only[gD]at hs ⊢;rw[List.getElem?_set];by_cases im:j=i
  ·rw[if_pos im,if_pos (by omega)];simpa using hx
  ·rw[if_neg im];exact hs
 ·rw[List.length_set]at hi
  have QV:=aa i hi;refine⟨?_,by simpa using QV.2⟩;simp only[gD];rw[List.getElem?_set];by_cases im:j=i
  ·subst im
   rw[if_pos rfl,if_pos hi,World.cell?_setCell_same _ _ _ QV.1];rfl
  ·rw[if_neg im,World.cell?_setCell_other _ _ _ _ (by intro hh;simp only[Addr.mk.injEq]at hh;omega),QV.1];rfl
def LRd(w:World)(v:Value)(zss:List (List Int)):Prop:=
 ∃b off cap,v=.slice (some ⟨b,off,none⟩) zss.length cap∧∀i,i<zss.length→∃a c,w.cell? ⟨b,off+i,none⟩=some (.slice a (zss.getD i []).length c)∧Nts w (.slice a (zss.getD i []).length c) (zss.getD i [])
def fO(n:Nat)(zs:List Int):Bool:=!(inB zs.length 8 512) || (zs.length:Int) !=(n:Int)
def eO(zs:List Int):Bool:=zs.any fun z=>!(inB z 0 65535)
def fK(zs:List Int):Bool:=zs.getD 0 0 != 0 || zs.getD 1 0 != 0
def chk(zss:List (List Int)):Int:=if zss.any (fO (zss.getD 0 []).length)then 1 else if zss.any eO then 2 else if zss.any fK then 5 else 0
theorem vY{α:Type}{p:α→Bool}{l:List α}{d:α}{i:Nat}(hi:i<l.length)(h:p (l.getD i d)=true):l.any p=true:=by
 refine List.any_eq_true.2 ⟨l.getD i d,?_,h⟩;simp[hi]
theorem oO{α:Type}{p:α→Bool}{l:List α}(d:α)(h:∀i,i<l.length→p (l.getD i d)=false):l.any p=false:=by
 rw[List.any_eq_false];intro x hx;obtain⟨i,hi,rfl⟩:=List.mem_iff_getElem.1 hx;have:=h i hi;simpa [hi] using this
theorem pZ(v:Value)(zss:List (List Int))(w:World)(hv:LRd w v zss)(h0:0<zss.length)(hn:zss.length≤1048576)(hl:∀i,(zss.getD i []).length≤1048576):
  Calls Tryz.prog 154 #[v] w fun e w'=>e=.returned (.int .i64 (chk zss))∧w=w':=by
 obtain⟨b,off,cap,rfl,aa⟩:=hv;obtain⟨a0,c0,e0,n0⟩:=aa 0 h0;rw[Nat.add_zero]at e0;obtain⟨z0,HZ⟩:∃z0,Hid (zss.getD 0 []=z0):=⟨_,rfl⟩;rw[HZ.out]at e0;have pf:z0.length≤1048576:=by rw[←HZ.out];exact hl 0
 go_enter Tryz.func154,Tryz.ntmps154
 go_wp2
 go_loop [13] (fun i=>∃k:Nat,k≤zss.length∧i=.int .i64 k∧∀j,j<k→fO z0.length (zss.getD j [])=false) (fun i=>zss.length -(intOf i).toNat)
 case atStart=>exact⟨0,Nat.zero_le _,rfl,fun j hj=>by omega⟩
 case round=>
  obtain⟨k,hk,rfl,ay⟩:=hrel;by_cases ai:k<zss.length
  ·obtain⟨a,c,e1,n1⟩:=aa k ai
   have gk:=hl k;have HB:Hid (fO z0.length (zss.getD k [])=(!(inB (zss.getD k []).length 8 512) || ((zss.getD k []).length:Int) !=(z0.length:Int))):=rfl;have HE:Hid (fO z0.length (zss.getD k [])=true→chk zss=1):=fun h=>if_pos (vY ai (by rw[HZ.out];exact h));generalize Ax:zss.getD k []=zk at *;clear aa;go_wp2_with fail;refine(eR _ _ _ _).mono ?_;rintro e w' ⟨rfl,rfl⟩;by_cases hb:inB zk.length 8 512=true
   ·rw[hb]
    by_cases he:zk.length=z0.length
    ·have av:((zk.length:Int) !=(z0.length:Int))=false:=by simp[he]
     have d5:fO z0.length zk=false:=by rw[HB.out,hb,av];rfl
     clear hb he;go_wp2;go_round
     case rel=>
      refine⟨k+1,by omega,by go_num,fun j hj=>?_⟩;by_cases hjk:j=k
      ·rw[hjk,Ax];exact d5
      ·exact ay j (by omega)
     case measure=>simp[intOf];omega
    ·have av:((zk.length:Int) !=(z0.length:Int))=true:=by simp;omega
     have d5:fO z0.length zk=true:=by rw[HB.out,hb,av];rfl
     have HC:Hid (chk zss=1):=HE.out d5;clear hb he;go_wp2;go_ret;exact⟨by rw[HC.out];rfl,rfl⟩
   ·have xe:inB zk.length 8 512=false:=by simpa using hb
    have d5:fO z0.length zk=true:=by rw[HB.out,xe];rfl
    have HC:Hid (chk zss=1):=HE.out d5;rw[xe];clear hb xe;go_wp2;go_ret;exact⟨by rw[HC.out];rfl,rfl⟩
  ·have hA:zss.any (fO z0.length)=false:=oO [] fun i hi=>ay i (by omega)
   have HC:Hid (chk zss=if zss.any eO then 2 else if zss.any fK then 5 else 0):=by unfold chk;rw[HZ.out,hA];rfl
   have ah:∀i,i<zss.length→8≤(zss.getD i []).length:=fun i hi=>by
    have:=ay i (by omega)
    simp only[fO,Bool.or_eq_false_iff,Bool.not_eq_false',inB,decide_eq_true_eq]at this;omega
   clear hA ay e0 n0;go_wp2;go_loop [33] (fun i=>∃k:Nat,k≤zss.length∧i=.int .i64 k∧∀j,j<k→eO (zss.getD j [])=false) (fun i=>zss.length -(intOf i).toNat)
   case atStart=>exact⟨0,Nat.zero_le _,rfl,fun j hj=>by omega⟩
   case round=>
    obtain⟨k,hk,rfl,ay⟩:=hrel;by_cases ai:k<zss.length
    ·obtain⟨a,c,e1,n1⟩:=aa k ai
     have gk:=hl k;have RN:=ah k ai;have HE:Hid (eO (zss.getD k [])=true→chk zss=2):=fun h=>by rw[HC.out];exact if_pos (vY ai h)
     generalize Ax:zss.getD k []=zk at *;obtain⟨a1,c1,C8,yz⟩:=n1.shape;simp only[Value.slice.injEq,true_and]at C8;obtain⟨rfl,rfl⟩:=C8;obtain⟨b1,o1,rfl,en⟩:=yz (by omega);clear aa n1 yz;go_wp2;go_loop [39] (fun i=>∃q:Nat,q≤zk.length∧i=.int .i64 q∧∀j,j<q→inB (zk.getD j 0) 0 65535=true) (fun i=>zk.length -(intOf i).toNat)
     case atStart=>exact⟨0,Nat.zero_le _,rfl,fun j hj=>by omega⟩
     case round=>
      obtain⟨q,hq,rfl,ku⟩:=hrel;by_cases hlq:q<zk.length
      ·have g1:=en q hlq
       have HP:Hid (inB (zk.getD q 0) 0 65535=false→eO zk=true):=fun h=>vY (d:=0) hlq (by rw[h];rfl);generalize hzq:zk.getD q 0=z at *;clear en;go_wp2_with fail;refine(eR _ _ _ _).mono ?_;rintro e w' ⟨rfl,rfl⟩;by_cases hb:inB z 0 65535=true
       ·rw[hb]
        go_wp2
        go_round
        case rel=>
         refine⟨q+1,by omega,by go_num,fun j hj=>?_⟩;by_cases hjq:j=q
         ·rw[hjq,hzq];exact hb
         ·exact ku j (by omega)
        case measure=>simp[intOf];omega
       ·have xe:inB z 0 65535=false:=by simpa using hb
        have CB:Hid (chk zss=2):=HE.out (HP.out xe);rw[xe];clear hb xe;go_wp2;go_ret;exact⟨by rw[CB.out];rfl,rfl⟩
      ·have kg:eO zk=false:=oO 0 fun i hi=>by rw[ku i (by omega)];rfl
       clear ku en;go_wp2;go_round
       case rel=>
        refine⟨k+1,by omega,by go_num,fun j hj=>?_⟩;by_cases hjk:j=k
        ·rw[hjk,Ax];exact kg
        ·exact ay j (by omega)
       case measure=>simp[intOf];omega
    ·have hA:zss.any eO=false:=oO [] fun i hi=>ay i (by omega)
     have SK:Hid (chk zss=if zss.any fK then 5 else 0):=by rw[HC.out,hA];rfl
     clear hA ay;go_wp2;go_loop [50] (fun i=>∃k:Nat,k≤zss.length∧i=.int .i64 k∧∀j,j<k→fK (zss.getD j [])=false) (fun i=>zss.length -(intOf i).toNat)
     case atStart=>exact⟨0,Nat.zero_le _,rfl,fun j hj=>by omega⟩
     case round=>
      obtain⟨k,hk,rfl,ay⟩:=hrel;by_cases ai:k<zss.length
      ·obtain⟨a,c,e1,n1⟩:=aa k ai
       have gk:=hl k;have RN:=ah k ai;have HE:Hid (fK (zss.getD k [])=true→chk zss=5):=fun h=>by rw[SK.out];exact if_pos (vY ai h)
       have HB:Hid (fK (zss.getD k [])=((zss.getD k []).getD 0 0 != 0 || (zss.getD k []).getD 1 0 != 0)):=rfl;generalize Ax:zss.getD k []=zk at *;obtain⟨a1,c1,C8,yz⟩:=n1.shape;simp only[Value.slice.injEq,true_and]at C8;obtain⟨rfl,rfl⟩:=C8;obtain⟨b1,o1,rfl,en⟩:=yz (by omega);have g0:=en 0 (by omega);have g1:=en 1 (by omega);rw[Nat.add_zero]at g0;generalize zk.getD 0 0=x at *;generalize zk.getD 1 0=y at *;have d8:(1:Int) <(zk.length:Int):=by omega
       have pf:0<zk.length:=by omega
       clear aa n1 en yz;by_cases hx:x=0
       ·by_cases hy:y=0
        ·subst hx hy
         have kg:fK zk=false:=by rw[HB.out];rfl
         go_wp2
         go_round
         case rel=>
          refine⟨k+1,by omega,by go_num,fun j hj=>?_⟩;by_cases hjk:j=k
          ·rw[hjk,Ax];exact kg
          ·exact ay j (by omega)
         case measure=>simp[intOf];omega
        ·have pn:(y != 0)=true:=by simpa using hy
         have CB:Hid (chk zss=5):=HE.out (by rw[HB.out,pn];simp);subst hx;clear hy;go_wp2;go_ret;exact⟨by rw[CB.out];rfl,rfl⟩
       ·have bq:(x != 0)=true:=by simpa using hx
        have CB:Hid (chk zss=5):=HE.out (by rw[HB.out,bq];rfl);clear hx;go_wp2;go_ret;exact⟨by rw[CB.out];rfl,rfl⟩
      ·have hA:zss.any fK=false:=oO [] fun i hi=>ay i (by omega)
       have CB:Hid (chk zss=0):=by rw[SK.out,hA];rfl
       clear hA ay aa;go_wp2;go_ret;exact⟨by rw[CB.out];rfl,rfl⟩
section
variable {P : Program} {ops : Array Oper} {Q : Exit → Act → World → Prop} {md : Region.Mode} {S : World → Prop} {L : Nat}
def dZ(P:Program)(md:Region.Mode)(ops:Array Oper)(Q:Exit→Act→World→Prop)(S:World→Prop)(L:Nat):Nat→Array Bool→Act→World→Prop
 | 0,listed,a,w=>Region.ready md ops listed=[]∧Q .normal a w
 | fuel+1,listed,a,w=>
  (Region.ready md ops listed=[]→Q .normal a w)∧
  ∀i∈Region.ready md ops listed,wpOp P ops Q i (fun a' w'=>(i≠L→S w')∧dZ P md ops Q S L fuel (listed.setIfInBounds i true) a' w') a w
theorem mR:∀(fuel:Nat) (listed:Array Bool) (a:Act) (w:World),dZ P md ops Q S L fuel listed a w→wpAny P md ops Q fuel listed a w
 | 0,_,_,_,h=>h
 | fuel+1,_,_,_,h=>⟨h.1,fun i hi=>wpOp_mono (fun a' w' h'=>mR fuel _ a' w' h'.2) (h.2 i hi)⟩
theorem aBX{i:Nat}{oi:Oper}{fuel:Nat}{listed:Array Bool}{a:Act}{w:World}(hr:Region.ready md ops listed=[i])(hi:ops[i]?=some oi)(hg:oi.guard=none)
  (h:∀K':Act→World→Prop,(∀a' w',(i≠L→S w')→dZ P md ops Q S L fuel (listed.setIfInBounds i true) a' w'→K' a' w')→oi.wp P a w K' Q):dZ P md ops Q S L (fuel+1) listed a w:=by
 refine⟨fun h0=>by simp[hr]at h0,fun j hj=>?_⟩;rw[hr]at hj;simp only[List.mem_singleton]at hj;subst hj;unfold wpOp;simp only[hi];rw[if_pos (by simp[Region.wanted,hg])];exact .inl (h _ fun _ _ h1 h2=>⟨h1,h2⟩)
theorem oE(i:Nat){oi:Oper}{fuel:Nat}{listed:Array Bool}{a:Act}{w:World}(hi:ops[i]?=some oi)(h:∀K':Act→World→Prop,(∀a' w',(i≠L→S w')→dZ P md ops Q S L fuel (listed.setIfInBounds i true) a' w'→K' a' w')→oi.wp P a w K' Q)(hr:Region.ready md ops listed=[i]:=by kernel_rfl)(hg:oi.guard=none:=by rfl):dZ P md ops Q S L (fuel+1) listed a w:=aBX hr hi hg h
theorem aS{listed:Array Bool}{a:Act}{w:World}(hr:Region.ready md ops listed=[])(h:Q .normal a w):∀fuel,dZ P md ops Q S L fuel listed a w
 | 0=>⟨hr,h⟩
 | _+1=>⟨fun _=>h,by rw[hr];simp⟩
theorem aZ(S:World→Prop)(L:Nat){id:Nat}{a:Act}{w:World}(hm:P.follows .mixedOrders=true)
  (h:dZ P .any ops Q S L ops.size (Array.replicate ops.size false) a w.drew):(Code.region id ops true).wp P Q a w:=
 wp_region_any hm (mR _ _ _ _ h)
end
end Go.Proofs.YtaahkgkdpnnhhaaGreat
namespace Go.Proofs.YtaahkgkdpnnhhaaGreat
open Go.RowKit
def fJ(B:Int):Int:=if 8≤B∧B≤512 then(B+17) / 20 else 0
theorem qE(B:Int)(w:World):
  Calls Tryz.prog 114 #[.int .i64 B] w fun e w'=>e=.returned (.int .i64 (fJ B))∧w=w':=by
 by_cases hB:8≤B∧B≤512
 ·have hb:=nK hB
  have HR:Hid (fJ B=(B+17) / 20):=if_pos hB;have hd:(B-2+20-1).tdiv 20=(B+17) / 20:=by rw[Int.tdiv_eq_ediv_of_nonneg (by omega)];congr 1;omega
  go_enter Tryz.func114,Tryz.ntmps114
  go_wp2_with fail
  refine(eR _ _ _ _).mono ?_;rintro e w' ⟨rfl,rfl⟩;go_wp2;go_ret;exact⟨by rw[HR.out];go_num,rfl⟩
 ·have hb:=iH hB
  have HR:Hid (fJ B=0):=if_neg hB;go_enter Tryz.func114,Tryz.ntmps114;go_wp2_with fail;refine(eR _ _ _ _).mono ?_;rintro e w' ⟨rfl,rfl⟩;go_wp2;go_ret;exact⟨by rw[HR.out];rfl,rfl⟩
theorem qN(B:Int)(w:World):
  Calls Tryz.prog 92 #[.int .i64 B] w fun e w'=>e=.returned (.int .i64 (fJ B))∧w=w':=by
 by_cases hB:8≤B∧B≤512
 ·have hb:=nK hB
  have HR:Hid (fJ B=(B+17) / 20):=if_pos hB;go_enter Tryz.func92,Tryz.ntmps92;go_wp2_with fail;refine(iM _ _).mono ?_;rintro e w' ⟨rfl,rfl⟩;go_wp2;go_loop [3] (fun i=>∃k:Nat,((k:Int)-1)*20<B-2∧i=.int .i64 k) (fun i=>600 -(intOf i).toNat)
  case atStart=>exact⟨0,by omega,rfl⟩
  case round=>
   obtain⟨k,hk,rfl⟩:=hrel;by_cases ai:(k:Int)*20<B-2
   ·go_wp2
    go_round
    case rel=>exact⟨k+1,by omega,by go_num⟩
    case measure=>simp[intOf];omega
   ·go_wp2
    go_ret
    exact⟨by rw[HR.out,show(B+17) / 20=(k:Int) by omega];rfl,rfl⟩
 ·have hb:=iH hB
  have HR:Hid (fJ B=0):=if_neg hB;go_enter Tryz.func92,Tryz.ntmps92;go_wp2_with fail;refine(iM _ _).mono ?_;rintro e w' ⟨rfl,rfl⟩;go_wp2;go_ret;exact⟨by rw[HR.out];rfl,rfl⟩
end Go.Proofs.YtaahkgkdpnnhhaaGreat
namespace Go.Proofs.YtaahkgkdpnnhhaaGreat
variable{zs:List Int}{i k:Nat}
def st(zs:List Int)(i:Nat):Bool:=zs.getD i 0 != 0 && (i == 0 || zs.getD (i-1) 0 != zs.getD i 0)
def chQ(zs:List Int)(i:Nat):Nat→Nat
 | 0=>0
 | n+1=>if chQ zs i n=n∧zs.getD (i+n) 0=zs.getD i 0 then n+1 else chQ zs i n
def stl(zs:List Int)(k:Nat):List Nat:=(List.range k).filter (st zs)
def rns(zs:List Int)(k:Nat):List (Int×Int×Int):=(stl zs k).map fun(i:Nat)=>((i:Int),(chQ zs i (k-i):Int),zs.getD i 0)
theorem gO(zs:List Int)(k:Nat):stl zs (k+1)=if st zs k then stl zs k++[k]else stl zs k:=by
 simp only[stl,List.range_succ,List.filter_append];by_cases h:st zs k<;>simp[h]
theorem aBP(h:i∈stl zs k):i<k∧st zs i=true:=by
 simpa [stl] using h
theorem aMA(zs:List Int)(i n:Nat):chQ zs i n≤n:=by
 induction n with
 | zero=>simp[chQ]
 | succ n ih=>simp only[chQ];split<;>omega
theorem wC{n:Nat}:chQ zs i n=n↔∀j,j<n→zs.getD (i+j) 0=zs.getD i 0:=by
 induction n with
 | zero=>simp[chQ]
 | succ n ih=>
  simp only[chQ];constructor
  ·intro h j hj
   split at h
   ·rename_i hc
    by_cases Q9:j=n
    ·subst Q9;exact hc.2
    ·exact ih.1 hc.1 j (by omega)
   ·have:=aMA zs i n;omega
  ·intro h
   rw[if_pos ⟨ih.2 fun j hj=>h j (by omega),h n (by omega)⟩]
theorem kC:st zs i=true↔zs.getD i 0≠0∧(i=0∨zs.getD (i-1) 0≠zs.getD i 0):=by
 simp[st]
theorem aHY(zs:List Int)(k:Nat)(h:zs.getD k 0≠0):∃i,i≤k∧st zs i=true∧stl zs (k+1)=stl zs i++[i]∧∀j,i≤j→j≤k→zs.getD j 0=zs.getD k 0:=by
 induction k with
 | zero=>
  have hs:st zs 0=true:=kC.2 ⟨h,.inl rfl⟩;exact⟨0,nR _,hs,by rw[gO,if_pos hs],fun j h1 h2=>by rw[show j=0 by omega]⟩
 | succ k ih=>
  by_cases hs:st zs (k+1)=true
  ·exact⟨k+1,nR _,hs,by rw[gO,if_pos hs],fun j h1 h2=>by rw[show j=k+1 by omega]⟩
  ·have he:zs.getD k 0=zs.getD (k+1) 0:=by
    have:=mt kC.2 hs
    simp only[Nat.add_sub_cancel,not_and,not_or,Decidable.not_not]at this;exact(this h).2
   obtain⟨i,h1,h2,h3,h4⟩:=ih (by rw[he];exact h);refine⟨i,by omega,h2,by rw[gO,if_neg hs,h3],fun j g1 g2=>?_⟩;by_cases hj:j=k+1
   ·rw[hj]
   ·rw[h4 j g1 (by omega),he]
theorem rC(h:i<k)(hn:¬∀j,i≤j→j≤k→zs.getD j 0=zs.getD i 0):chQ zs i (k+1-i)=chQ zs i (k-i):=by
 rw[show k+1-i=(k-i)+1 by omega];simp only[chQ];rw[if_neg];rintro⟨h1,h2⟩;refine hn fun j g1 g2=>?_;by_cases hj:j=k
 ·rw[hj,show k=i+(k-i) by omega];exact h2
 ·have:=wC.1 h1 (j-i) (by omega)
  rwa [show i+(j-i)=j by omega]at this
theorem aLB(zs:List Int)(i:Nat):chQ zs i 1=1:=by simp[chQ]
theorem aHM(zs:List Int)(k:Nat)(h:zs.getD k 0=0):rns zs (k+1)=rns zs k:=by
 have hs:st zs k≠true:=fun e=>(kC.1 e).1 h;simp only[rns,gO,if_neg hs];refine List.map_congr_left fun i hi=>?_;obtain⟨h1,h2⟩:=aBP hi;rw[rC h1 fun g=>(kC.1 h2).1 (by rw[←g k (by omega) (nR _)];exact h)]
theorem aJY(zs:List Int)(k:Nat)(h:zs.getD k 0≠0)(hn:k=0∨zs.getD (k-1) 0≠zs.getD k 0):rns zs (k+1)=rns zs k++[((k:Int),1,zs.getD k 0)]:=by
 have hs:st zs k=true:=kC.2 ⟨h,hn⟩;simp only[rns,gO,if_pos hs,List.map_append,List.map_cons,List.map_nil];rw[show k+1-k=1 by omega,aLB];congr 1;refine List.map_congr_left fun i hi=>?_;obtain⟨h1,h2⟩:=aBP hi;rw[rC h1 fun g=>?_];rcases hn with rfl | hn
 ·omega
 ·exact hn (by rw[g (k-1) (by omega) (by omega),g k (by omega) (by omega)])
theorem aHL(zs:List Int)(k:Nat)(h:zs.getD (k+1) 0≠0)(he:zs.getD k 0=zs.getD (k+1) 0):
  ∃(pre:List (Int×Int×Int)) (a b c:Int),rns zs (k+1)=pre++[(a,b,c)]∧rns zs (k+1+1)=pre++[(a,b+1,c)]∧0≤b∧b≤k+1:=by
 obtain⟨i,h1,h2,h3,h4⟩:=aHY zs k (by rw[he];exact h);have hs:st zs (k+1)≠true:=fun e=>by
  rcases(kC.1 e).2 with g | g
  ·omega
  ·exact g he
 have ay:∀j,j<k+1-i→zs.getD (i+j) 0=zs.getD i 0:=fun j hj=>by rw[h4 (i+j) (by omega) (by omega),h4 i (by omega) h1]
 have hc:chQ zs i (k+1-i)=k+1-i:=wC.2 ay;have jg:chQ zs i (k+1+1-i)=k+1-i+1:=by
  rw[show k+1+1-i=(k+1-i)+1 by omega];refine wC.2 fun j hj=>?_;by_cases xw:j=k+1-i
  ·rw[xw,show i+(k+1-i)=k+1 by omega,←he,h4 i (by omega) h1]
  ·exact ay j (by omega)
 refine⟨(stl zs i).map fun(q:Nat)=>((q:Int),(chQ zs q (k+1-q):Int),zs.getD q 0),(i:Int),((k+1-i:Nat):Int),zs.getD i 0,?_,?_,by omega,by omega⟩
 ·simp only[rns,h3,List.map_append,List.map_cons,List.map_nil,hc]
 ·rw[rns,gO,if_neg hs,h3]
  simp only[List.map_append,List.map_cons,List.map_nil,jg];congr 1;refine List.map_congr_left fun q hq=>?_;obtain⟨g1,g2⟩:=aBP hq;rw[rC (show q<k+1 by omega) fun g=>?_];rcases(kC.1 h2).2 with e | e
  ·omega
  ·exact e (by rw[g (i-1) (by omega) (by omega),g i (by omega) (by omega)])
theorem tD(zs:List Int)(k:Nat):(rns zs k).length≤k:=by
 simp only[rns,List.length_map,stl];exact lT (List.length_filter_le _ _) (by simp)
theorem wD{m:Nat}(h:chQ zs i m=m)(hn:zs.getD (i+m) 0≠zs.getD i 0):∀n,chQ zs i (m+n)=m
 | 0=>h
 | n+1=>by
  have ih:=wD h hn n;rw[show m+(n+1)=(m+n)+1 by omega];simp only[chQ];rw[if_neg,ih];rintro⟨h1,h2⟩;rw[ih]at h1;exact hn (by rw[show m+n=m by omega]at h2;exact h2)
def srn(zs:List Int)(n k:Nat):List (Int×Int×Int):=(stl zs k).map fun(i:Nat)=>((i:Int),(chQ zs i (n-i):Int),zs.getD i 0)
theorem aKD(zs:List Int)(n:Nat):srn zs n n=rns zs n:=rfl
theorem aHX(zs:List Int)(n k:Nat)(h:st zs k=false):srn zs n (k+1)=srn zs n k:=by simp[srn,gO,h]
theorem qW(zs:List Int)(n k:Nat)(h:st zs k=true):srn zs n (k+1)=srn zs n k++[((k:Int),(chQ zs k (n-k):Int),zs.getD k 0)]:=by simp[srn,gO,h]
theorem aBM(zs:List Int)(n k:Nat):(srn zs n k).length≤k:=by
 simp only[srn,List.length_map,stl];exact lT (List.length_filter_le _ _) (by simp)
end Go.Proofs.YtaahkgkdpnnhhaaGreat
namespace Go.Proofs
open Go.Shelf
def Tryz.sort64_ren:Go.Shelf.Ren:=⟨fun | 53=>156 | 64=>159 | 63=>158 | 78=>169 | 79=>170 | 70=>160 | 71=>161 | 72=>162 | 73=>163 | 74=>164 | 75=>165 | 59=>166 | 76=>167 | 77=>168 | 88=>171 | 89=>172 | 90=>173 | 91=>174 | 92=>175 | 68=>107 | 96=>176 | n=>n,fun | 22=>24 | 23=>2 | 3=>3 | 51=>141 | 0=>0 | 67=>217 | 69=>219 | 4=>4 | 61=>210 | 60=>209 | 44=>87 | 5=>5 | 9=>9 | 75=>220 | 79=>224 | 83=>226 | 84=>227 | n=>n,fun | n=>n⟩
theorem Tryz.sort64:Go.Proofs.SlLaysN.n53 Tryz.prog Tryz.sort64_ren:={
 mixed:=by kernel_rfl
 f53:=⟨Tryz.f156.name,by decide,Tryz.func156.trans (congrArg some (by kernel_rfl))⟩
 f59:=⟨Tryz.f166.name,by decide,Tryz.func166.trans (congrArg some (by kernel_rfl))⟩
 f63:=⟨Tryz.f158.name,by decide,Tryz.func158.trans (congrArg some (by kernel_rfl))⟩
 f64:=Tryz.func159.trans (congrArg some (by kernel_rfl))
 f68:=⟨Tryz.f107.name,by decide,Tryz.func107.trans (congrArg some (by kernel_rfl))⟩
 f70:=⟨Tryz.f160.name,by decide,Tryz.func160.trans (congrArg some (by kernel_rfl))⟩
 f71:=⟨Tryz.f161.name,by decide,Tryz.func161.trans (congrArg some (by kernel_rfl))⟩
 f72:=⟨Tryz.f162.name,by decide,Tryz.func162.trans (congrArg some (by kernel_rfl))⟩
 f73:=⟨Tryz.f163.name,by decide,Tryz.func163.trans (congrArg some (by kernel_rfl))⟩
 f74:=⟨Tryz.f164.name,by decide,Tryz.func164.trans (congrArg some (by kernel_rfl))⟩
 f75:=⟨Tryz.f165.name,by decide,Tryz.func165.trans (congrArg some (by kernel_rfl))⟩
 f76:=⟨Tryz.f167.name,by decide,Tryz.func167.trans (congrArg some (by kernel_rfl))⟩
 f77:=⟨Tryz.f168.name,by decide,Tryz.func168.trans (congrArg some (by kernel_rfl))⟩
 f78:=Tryz.func169.trans (congrArg some (by kernel_rfl))
 f79:=Tryz.func170.trans (congrArg some (by kernel_rfl))
 f88:=⟨Tryz.f171.name,by decide,Tryz.func171.trans (congrArg some (by kernel_rfl))⟩
 f89:=Tryz.func172.trans (congrArg some (by kernel_rfl))
 f90:=Tryz.func173.trans (congrArg some (by kernel_rfl))
 f91:=⟨Tryz.f174.name,by decide,Tryz.func174.trans (congrArg some (by kernel_rfl))⟩
 f92:=⟨Tryz.f175.name,by decide,Tryz.func175.trans (congrArg some (by kernel_rfl))⟩
 f96:=⟨Tryz.f176.name,by decide,Tryz.func176.trans (congrArg some (by kernel_rfl))⟩
 t0:=Tryz.underlying0
 a0:=Tryz.isAgg0
 z0:=Tryz.sizeOf0
 v0:=Tryz.zeroValue0
 t3:=Tryz.underlying3
 a3:=Tryz.isAgg3
 z3:=Tryz.sizeOf3
 v3:=Tryz.zeroValue3
 t4:=Tryz.underlying4
 a4:=Tryz.isAgg4
 z4:=Tryz.sizeOf4
 v4:=Tryz.zeroValue4
 t5:=Tryz.underlying5
 a5:=Tryz.isAgg5
 z5:=Tryz.sizeOf5
 v5:=Tryz.zeroValue5
 t9:=Tryz.underlying9
 a9:=Tryz.isAgg9
 z9:=Tryz.sizeOf9
 v9:=Tryz.zeroValue9
 t22:=Tryz.underlying24
 a22:=Tryz.isAgg24
 z22:=Tryz.sizeOf24
 v22:=Tryz.zeroValue24
 t23:=Tryz.underlying2
 a23:=Tryz.isAgg2
 z23:=Tryz.sizeOf2
 v23:=Tryz.zeroValue2
 t44:=Tryz.underlying87
 a44:=Tryz.isAgg87
 z44:=Tryz.sizeOf87
 v44:=Tryz.zeroValue87
 t51:=Tryz.underlying141
 a51:=Tryz.isAgg141
 z51:=Tryz.sizeOf141
 v51:=Tryz.zeroValue141
 t60:=Tryz.underlying209
 a60:=Tryz.isAgg209
 z60:=Tryz.sizeOf209
 v60:=Tryz.zeroValue209
 t61:=Tryz.underlying210
 a61:=Tryz.isAgg210
 z61:=Tryz.sizeOf210
 v61:=Tryz.zeroValue210
 t67:=Tryz.underlying217
 a67:=Tryz.isAgg217
 z67:=Tryz.sizeOf217
 v67:=Tryz.zeroValue217
 t69:=Tryz.underlying219
 a69:=Tryz.isAgg219
 z69:=Tryz.sizeOf219
 v69:=Tryz.zeroValue219
 t75:=Tryz.underlying220
 a75:=Tryz.isAgg220
 z75:=Tryz.sizeOf220
 v75:=Tryz.zeroValue220
 t79:=Tryz.underlying224
 a79:=Tryz.isAgg224
 z79:=Tryz.sizeOf224
 v79:=Tryz.zeroValue224
 t83:=Tryz.underlying226
 a83:=Tryz.isAgg226
 z83:=Tryz.sizeOf226
 v83:=Tryz.zeroValue226
 t84:=Tryz.underlying227
 a84:=Tryz.isAgg227
 z84:=Tryz.sizeOf227
 v84:=Tryz.zeroValue227}
end Go.Proofs
namespace Go.Proofs.YtaahkgkdpnnhhaaGreat
open Go.RowKit
def aFI(lo hi:Nat)(w:World)(v:Value)(rs:List (Int×Int×Int)):Prop:=
 ∃a cap,v=.slice a rs.length cap∧(0<rs.length→∃b off,a=some ⟨b,off,none⟩∧lo≤b∧b<hi∧b<w.heap.size∧(∀j,w.frozen? ⟨b,j,none⟩=false)∧∀i,i<rs.length→w.cell? ⟨b,off+i*3,none⟩=some (.int .i64 (rs.getD i (0,0,0)).1)∧w.cell? ⟨b,off+i*3+1,none⟩=some (.int .i64 (rs.getD i (0,0,0)).2.1)∧w.cell? ⟨b,off+i*3+2,none⟩=some (.int .i64 (rs.getD i (0,0,0)).2.2))
theorem aFI.empty(lo hi:Nat)(w:World)(a:Option Addr)(cap:Nat):aFI lo hi w (.slice a 0 cap) []:=⟨a,cap,rfl,fun h=>by simp at h⟩
def eT(rs:List (Int×Int×Int)):List Value:=rs.flatMap fun r=>[.int .i64 r.1,.int .i64 r.2.1,.int .i64 r.2.2]
def fB(base:Nat)(w:World)(v:Value)(rs:List (Int×Int×Int)):Prop:=w.ownsRow base 165 3 v rs.length (eT rs)
theorem nD(rs:List (Int×Int×Int)):(eT rs).length=rs.length*3:=by
 induction rs with
 | nil=>rfl
 | cons r l ih=>simp only[eT,List.flatMap_cons,lP,List.length_cons,List.length_nil]at ih ⊢;omega
theorem jR(rs ss:List (Int×Int×Int)):eT (rs++ss)=eT rs++eT ss:=by simp[eT]
theorem uX(rs:List (Int×Int×Int))(i:Nat)(h:i<rs.length):(eT rs)[i*3]?=some (.int .i64 (rs.getD i (0,0,0)).1)∧(eT rs)[i*3+1]?=some (.int .i64 (rs.getD i (0,0,0)).2.1)∧(eT rs)[i*3+2]?=some (.int .i64 (rs.getD i (0,0,0)).2.2):=by
 induction rs generalizing i with
 | nil=>simp at h
 | cons r l ih=>
  match i with
  | 0=>simp[eT]
  | i+1=>
   have:=ih i (by simpa using h)
   have e:eT (r :: l)=[.int .i64 r.1,.int .i64 r.2.1,.int .i64 r.2.2]++eT l:=by simp[eT]
   rw[e,List.getElem?_append_right (by simp;omega),List.getElem?_append_right (by simp;omega),List.getElem?_append_right (by simp;omega)];simp only[List.length_cons,List.length_nil,List.getD_cons_succ];rw[show(i+1)*3 -(0+1+1+1)=i*3 by omega,show(i+1)*3+1 -(0+1+1+1)=i*3+1 by omega,show(i+1)*3+2 -(0+1+1+1)=i*3+2 by omega];exact this
theorem fB.shape{base:Nat}{w:World}{v:Value}{rs:List (Int×Int×Int)}(h:fB base w v rs):∃a cap,v=.slice a rs.length cap:=by
 rcases h.2 with⟨hv,hn⟩ | ⟨g,cap,cur,hv,_⟩
 ·exact⟨none,0,by rw[hv,hn]⟩
 ·exact⟨_,_,hv⟩
theorem fB.start(base:Nat)(w:World):fB base w (.slice none 0 0) []:=World.ownsRow_nil w base 165 3
theorem fB.lit(base:Nat)(w:World)(hb:base≤w.heap.size)(g:Nat)(hg:g=w.heap.size):fB base (w.alloc (.cells #[] 165)) (.slice (some ⟨g,0,none⟩) 0 0) []:=by
 subst hg;exact World.ownsRow_lit (e:=165) (size:=3) w #[] 0 hb (by decide) rfl
theorem fB.own{base:Nat}{w:World}{v:Value}{rs:List (Int×Int×Int)}(h:fB base w v rs):aFI base w.heap.size w v rs:=by
 obtain⟨a,cap,hf⟩:=h.shape;refine⟨a,cap,hf,fun hp=>?_⟩;have ai:=h.lt;rcases h.2 with⟨_,e⟩ | ⟨b,cap',cur,hv,e1,e2,e3⟩
 ·omega
 ·subst hv
  have QO:=h.cellAt;have CU:=h.frozenAt;simp only[Value.slice.injEq]at hf;obtain⟨rfl,_,rfl⟩:=hf;refine⟨b,0,rfl,(ai b rfl).1,(ai b rfl).2,(ai b rfl).2,CU,fun i hi=>?_⟩;obtain⟨g1,g2,g3⟩:=uX rs i hi;rw[Nat.zero_add,QO (i*3) (by omega),QO (i*3+1) (by omega),QO (i*3+2) (by omega)];exact⟨g1,g2,g3⟩
theorem lJ(zs:List Int):chk [zs]=if inB zs.length 8 512=false then 1 else if eO zs then 2 else if fK zs then 5 else 0:=by
 by_cases h:inB zs.length 8 512=false<;>simp[chk,fO,h]
theorem aCG(a b:List Int)(h:a.length=b.length):chk [a,b]=if chk [a]=1∨chk [b]=1 then 1 else if chk [a]=2∨chk [b]=2 then 2 else if chk [a]≠0 then chk [a]else chk [b]:=by
 rw[lJ,lJ,h];by_cases h1:inB b.length 8 512=false
 ·simp[chk,fO,h,h1]
 ·cases h2:eO a<;>cases h3:eO b<;>cases h4:fK a<;>cases h5:fK b<;>simp[chk,fO,h,h1,h2,h3,h4,h5]
theorem aDI(a b:List Int)(h:a.length≠b.length):chk [a,b]=1:=by
 have h2:((b.length:Int) !=(a.length:Int))=true:=by simp;omega
 simp[chk,fO,h2]
theorem aAI{zs:List Int}(h:chk [zs]=0):(8≤zs.length∧zs.length≤512)∧(∀i,0≤zs.getD i 0∧zs.getD i 0≤65535)∧zs.getD 0 0=0∧zs.getD 1 0=0:=by
 rw[lJ]at h;by_cases h1:inB zs.length 8 512=false
 ·rw[if_pos h1]at h;omega
 ·rw[if_neg h1]at h
  by_cases h2:eO zs=true
  ·rw[if_pos h2]at h;omega
  ·rw[if_neg h2]at h
   by_cases h3:fK zs=true
   ·rw[if_pos h3]at h;omega
   ·simp only[Bool.not_eq_false,inB,decide_eq_true_eq]at h1
    have N4:eO zs=false:=by simpa using h2
    simp only[fK,Bool.or_eq_true,bne_iff_ne,ne_eq,not_or,Decidable.not_not]at h3;refine⟨by omega,fun i=>?_,h3⟩;by_cases hi:i<zs.length
    ·have:=List.any_eq_false.1 N4 zs[i] (List.getElem_mem hi)
     simp only[inB,Bool.not_eq_true',decide_eq_false_iff_not,Decidable.not_not]at this;simpa [hi] using this
    ·simp[hi]
section
variable {P : Program} {ops : Array Oper} {Q : Exit → Act → World → Prop} {md : Region.Mode} {S : World → Prop} {L : Nat}
def zX(md:Region.Mode)(ops:Array Oper)(L i:Nat):Bool:=((ops[L]?).map fun o=>o.after.toList.any fun e=>Region.binds md e && e.on == i).getD false
theorem zY{i:Nat}(h:zX md ops L i=true){listed:Array Bool}(hi:i∈Region.ready md ops listed)(hL:L∈Region.ready md ops listed):i=L:=by
 obtain⟨h1,o,ho,h2⟩:=mem_ready.1 hi;obtain⟨_,oL,Wp,h4⟩:=mem_ready.1 hL;unfold zX at h;simp only[Wp,Option.map_some,Option.getD_some,List.any_eq_true,Bool.and_eq_true,beq_iff_eq]at h;obtain⟨e,he,hb,GD⟩:=h;have h6:=h4 e (by simpa using he) hb;rw[GD]at h6;simp only[Array.getD_eq_getD_getElem?]at h1 h6;cases hx:listed[i]? with
 | none=>simp[hx]at h1
 | some b=>simp[hx]at h1 h6;rw[h1]at h6;cases h6
theorem aBW{i:Nat}(fg:zX md ops L i=true){oi:Oper}{v:Value}(hi:ops[i]?=some oi)(uo:∀(j:Nat) (o:Oper) cs b,ops[j]?=some o→o.op≠.select cs b)
  (hQ:∀c a w,Q (.panic c) (a.put oi.dst v) w→Q (.panic c) a w) (fuel:Nat):
  ∀(listed:Array Bool) (a:Act) (w:World),
   (∀j oj,ops[j]?=some oj→j≠i→listed.getD j true=false→(∀e∈oj.after,Region.binds md e=true→e.on≠i)→oi.apart ops oj=true)→
   i∈Region.ready md ops listed→YieldsIf P ops S oi v a→S w→
   dZ P md ops Q S L fuel (listed.setIfInBounds i true) (a.put oi.dst v) w→dZ P md ops Q S L (fuel+1) listed a w:=by
 induction fuel with
 | zero=>
  intro listed a w _ hr hy hS H;refine⟨fun h=>by simp[h]at hr,fun j hj=>?_⟩;by_cases dq:j=i
  ·subst dq
   exact hy.wpOp hi hS ⟨fun _=>hS,H⟩
  ·have hm:=ready_mono hj dq
   simp[H.1]at hm
 | succ fuel ih=>
  intro listed a w mu hr hy hS H;refine⟨fun h=>by simp[h]at hr,fun j hj=>?_⟩;by_cases dq:j=i
  ·subst dq
   exact hy.wpOp hi hS ⟨fun _=>hS,H⟩
  ·have Ml:j≠L:=fun e=>dq (e.trans (zY fg hr (e▸hj)).symm)
   obtain⟨uh,oj,AW,ay⟩:=mem_ready.1 hj;have Bm:∀e∈oj.after,Region.binds md e=true→e.on≠i:=fun e he hb GD=>by
    have h1:=ay e he hb;have h0:=(mem_ready.1 hr).1;rw[GD]at h1;simp only[Array.getD_eq_getD_getElem?]at h0 h1;cases hx:listed[i]? with
    | none=>simp[hx]at h0
    | some b=>simp[hx]at h0 h1;rw[h0]at h1;cases h1
   have h2:=wpOp_putIf AW (mu j oj AW dq uh Bm) (fun cs b=>uo i oi cs b hi) (fun cs b=>uo j oj cs b AW) hQ hy (H.2 j (ready_mono hj dq));refine wpOp_mono (fun a' w' h3=>?_) h2;obtain⟨pn,BP,hE⟩:=h3;refine⟨BP,ih (listed.setIfInBounds j true) a' w' (fun k ok hk lm GP kv=>mu k ok hk lm ?_ kv) (ready_mono hr (Ne.symm dq)) pn (BP Ml) ?_⟩
   ·by_cases hjk:j=k
    ·exact hjk▸uh
    ·rwa [getD_set_ne true hjk]at GP
   ·rw[Array.setIfInBounds_comm _ _ dq]
    exact hE
theorem vX{i:Nat}{oi:Oper}(t:Nat)(v:Value){fuel:Nat}{listed:Array Bool}{a:Act}{w:World}(fg:zX md ops L i=true)(hi:ops[i]?=some oi)
  (hs:Region.noSelect ops=true) (hf:Region.free md ops listed i=true) (hr:(Region.ready md ops listed).contains i=true)
  (hQ:∀c a w,Q (.panic c) (a.put oi.dst v) w→Q (.panic c) a w) (hg:oi.guard=none) (ht:oi.dst=some t) (hS:S w) (hy:∀w,S w→(execOp a.eval oi).run P w=.ok (.value v) w)
  (h:dZ P md ops Q S L fuel (listed.setIfInBounds i true) (a.put (some t) v) w):dZ P md ops Q S L (fuel+1) listed a w:=
 aBW fg hi (Region.noSelect_spec hs) hQ fuel listed a w (Region.free_spec hi hf) (by simpa using hr) (.inl ⟨by simp[Region.wanted,hg],hy⟩) hS (by rw[ht];exact h)
theorem tJ(i:Nat){oi:Oper}(t:Nat)(v:Value){fuel:Nat}{listed:Array Bool}{a:Act}{w:World}(hi:ops[i]?=some oi)(hS:S w)(h:dZ P md ops Q S L fuel (listed.setIfInBounds i true) (a.put (some t) v) w)(hy:∀w,S w→(execOp a.eval oi).run P w=.ok (.value v) w:=by(intro w' hw;(repeat (obtain⟨_,hw⟩:=hw));go_simp;try rfl))(fg:zX md ops L i=true:=by kernel_rfl)(hs:Region.noSelect ops=true:=by kernel_rfl)(hf:Region.free md ops listed i=true:=by kernel_rfl)(hr:(Region.ready md ops listed).contains i=true:=by kernel_rfl)(hQ:∀c a w,Q (.panic c) (a.put oi.dst v) w→Q (.panic c) a w:=by exact fun _ _ _ h=>h)(hg:oi.guard=none:=by rfl)(ht:oi.dst=some t:=by rfl):dZ P md ops Q S L (fuel+1) listed a w:=vX t v fg hi hs hf hr hQ hg ht hS hy h
end
end Go.Proofs.YtaahkgkdpnnhhaaGreat
namespace Go.Proofs.YtaahkgkdpnnhhaaGreat
open Go.RowKit
variable{ys zs:List Int}
theorem uR(zs:List Int):chk [zs]=0∨chk [zs]=1∨chk [zs]=2∨chk [zs]=5:=by
 rw[lJ];by_cases h1:inB zs.length 8 512=false
 ·rw[if_pos h1];simp
 ·rw[if_neg h1]
  cases h2:eO zs<;>cases h3:fK zs<;>simp
theorem mD{a b:List Int}(h:chk [a,b]=0):a.length=b.length∧chk [a]=0∧chk [b]=0:=by
 by_cases hl:a.length=b.length
 ·rw[aCG a b hl]at h
  rcases uR a with h1 | h1 | h1 | h1<;>rcases uR b with h2 | h2 | h2 | h2<;>simp[h1,h2]at h ⊢
  exact hl
 ·rw[aDI a b hl]at h;omega
theorem LRd.two{w:World}{a a':Option Addr}{c c':Nat}(h:Nts w (.slice a zs.length c) zs)(h':Nts w (.slice a' ys.length c') ys)(t:TypeId)(g:Nat)(hg:g=w.heap.size):
  LRd (w.alloc (.cells #[.slice a zs.length c,.slice a' ys.length c'] t)) (.slice (some ⟨g,0,none⟩) 2 2) [zs,ys]:=by
 subst hg;refine⟨_,0,2,rfl,fun i hi=>?_⟩;match i,hi with
 | 0,_=>exact⟨a,c,World.cell?_alloc_at _ _ _ _ rfl,h.alloc _⟩
 | 1,_=>exact⟨a',c',World.cell?_alloc_at _ _ _ _ rfl,h'.alloc _⟩
theorem aEY(h:zs.length≤1048576)(h':ys.length≤1048576)(i:Nat):(([zs,ys]:List (List Int)).getD i []).length≤1048576:=by
 match i with
 | 0=>exact h
 | 1=>exact h'
 | i+2=>simp
theorem iJ(w:World)(o:Obj):Bl w (w.alloc o):=(bQ _ _).alloc (nR _) _
