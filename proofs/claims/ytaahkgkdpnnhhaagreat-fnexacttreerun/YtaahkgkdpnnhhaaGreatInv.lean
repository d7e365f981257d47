import Derived.Test.YtaahkgkdpnnhhaaGreatRows
import Derived.WalkKit
import Derived.Orders
import Derived.WalkSpells
import Derived.WalkLawsBesides
import Derived.Deep.QuietTactic
import Derived.BigQuiet
import Derived.Deep.OwnRows
import Derived.Test.YtaahkgkdpnnhhaaGreatProg
import Derived.Laws.BytesString
import Derived.OrdersHeld
import Derived.Deep.RegionHeld
import Derived.Test.YtaahkgkdpnnhhaaGreatSh0
set_option maxHeartbeats 9999999
set_option maxRecDepth 99999
set_option linter.all false
namespace Go.Proofs.YtaahkgkdpnnhhaaGreat
open Go.RowKit
section
variable {P : Program} {ops : Array Oper} {Q : Exit → Act → World → Prop} {md : Region.Mode}
def aIV(md:Region.Mode)(ops:Array Oper)(l:Array Bool):Prop:=∀k,l.getD k false=true→∀o,ops[k]?=some o→∀e∈o.after,Region.binds md e=true→l.getD e.on false=true
theorem aEA(I:Array Bool→Act→World→Prop)
  (hstep:∀l a w,l.size=ops.size→aIV md ops l→I l a w→∀i o,ops[i]?=some o→l.getD i true=false→l.getD i false=false→(∀e∈o.after,Region.binds md e=true→l.getD e.on false=true)→wpOp P ops Q i (fun a' w'=>I (l.setIfInBounds i true) a' w') a w)
  (hend:∀l a w,l.size=ops.size→I l a w→(∀i,i<ops.size→l.getD i false=true)→Q .normal a w)
  (hsrt:∀l:Array Bool,l.size=ops.size→Region.ready md ops l=[]→∀i,i<ops.size→l.getD i false=true):
  ∀(fuel:Nat) (l:Array Bool) (a:Act) (w:World),l.size=ops.size→aIV md ops l→l.toList.count false=fuel→I l a w→wpAny P md ops Q fuel l a w:=by
 intro fuel;induction fuel with
 | zero=>
  intro l a w hs _ hc hI;have hall:∀i,i<ops.size→l.getD i false=true:=fun i hi=>by
   have hil:i<l.size:=by omega
   cases hb:l[i]with
   | true=>simp[hil,hb]
   | false=>
    exfalso
    have hm:false∈l.toList:=by rw[←hb];exact Array.getElem_mem_toList hil
    have:=List.count_pos_iff.2 hm
    omega
  have hr:Region.ready md ops l=[]:=by
   cases hrr:Region.ready md ops l with
   | nil=>rfl
   | cons j r=>
    exfalso
    obtain⟨h1,o,ho,_⟩:=mem_ready.1 (show j∈Region.ready md ops l by rw[hrr];simp);have hj:j<ops.size:=(Array.getElem?_eq_some_iff.1 ho).1;have h2:=hall j hj;have hjl:j<l.size:=by omega
    simp[hjl]at h1 h2
    rw[h1]at h2;cases h2
  exact⟨hr,hend l a w hs hI hall⟩
 | succ fuel ih=>
  intro l a w hs hcl hc hI;refine⟨fun hr=>hend l a w hs hI (hsrt l hs hr),fun i hi=>?_⟩;obtain⟨h1,o,ho,hd⟩:=mem_ready.1 hi;have hio:i<ops.size:=(Array.getElem?_eq_some_iff.1 ho).1;have hil:i<l.size:=by omega
  have hlf:l[i]=false:=by simpa [hil] using h1
  have h1':l.getD i false=false:=by simp[hil,hlf]
  refine wpOp_mono (fun a' w' hI'=>ih (l.setIfInBounds i true) a' w' (by simpa using hs) ?_ ?_ hI') (hstep l a w hs hcl hI i o ho h1 h1' hd)
  ·intro k hk o' ho' e he hb
   by_cases hki:i=k
   ·subst hki
    obtain rfl:=Option.some.inj (ho.symm.trans ho');exact getD_set_true (hd e he hb)
   ·rw[getD_set_ne false hki]at hk
    exact getD_set_true (hcl k hk o' ho' e he hb)
  ·have hlt:i<l.toList.length:=by simpa using hil
   rw[Array.toList_setIfInBounds,List.count_set hlt];have:l.toList[i]=false:=by simpa using hlf
   have hc2:Array.count false l=fuel+1:=by simpa using hc
   simp[this,hc2]
theorem aCA(hlt:∀(k:Nat) (o:Oper),ops[k]?=some o→∀e∈o.after,e.on<k)(l:Array Bool)(hs:l.size=ops.size)(hr:Region.ready md ops l=[]):∀i,i<ops.size→l.getD i false=true:=by
 intro i;induction i using Nat.strongRecOn with
 | ind i ih=>
  intro hi;have hil:i<l.size:=by omega
  cases hb:l[i]with
  | true=>simp[hil,hb]
  | false=>
   exfalso
   have:i∈Region.ready md ops l:=mem_ready.2 ⟨by simp[hil,hb],ops[i],Array.getElem?_eq_getElem hi,fun e he _=>by
    have:=hlt i _ (Array.getElem?_eq_getElem hi) e he
    exact ih e.on this (by omega)⟩
   rw[hr]at this;cases this
theorem aFO(h:(ops.toList.zipIdx.all fun p=>p.1.after.toList.all fun e=>decide (e.on<p.2))=true)(k:Nat)(o:Oper)(ho:ops[k]?=some o):∀e∈o.after,e.on<k:=fun e he=>by
 have hm:(o,k)∈ops.toList.zipIdx:=by
  rw[List.mem_zipIdx_iff_getElem?];simpa using ho
 have h1:=List.all_eq_true.1 h _ hm;exact of_decide_eq_true (List.all_eq_true.1 h1 e (by simpa using he))
theorem dV{i:Nat}{o:Oper}{K:Act→World→Prop}{a:Act}{w:World}(ho:ops[i]?=some o)(hg:o.guard=none)(h:o.wp P a w K Q):wpOp P ops Q i K a w:=by
 unfold wpOp;simp only[ho];rw[if_pos (by simp[Region.wanted,hg])];exact .inl h
end
end Go.Proofs.YtaahkgkdpnnhhaaGreat
namespace Go.Proofs.YtaahkgkdpnnhhaaGreat
open Go.RowKit
structure Upd(lo hi:Nat)(w w':World):Prop where
 os:w'.os=w.os
 tape:w'.tape=w.tape
 output:w'.output=w.output
 size:w.heap.size≤w'.heap.size
 block:∀k,k<w.heap.size→(k<lo∨hi≤k)→w'.heap[k]?=w.heap[k]?
theorem Upd.refl(lo hi:Nat)(w:World):Upd lo hi w w:=⟨rfl,rfl,rfl,nR _,fun _ _ _=>rfl⟩
theorem Upd.trans{lo hi:Nat}{a b c:World}(h:Upd lo hi a b)(k:Upd lo hi b c):Upd lo hi a c:=
 ⟨k.os.trans h.os,k.tape.trans h.tape,k.output.trans h.output,lT h.size k.size,fun i hi' hn=>(k.block i (lL hi' h.size) hn).trans (h.block i hi' hn)⟩
theorem Upd.below{lo hi B:Nat}{w w':World}(h:Upd lo hi w w')(h1:B≤lo)(h2:B≤w.heap.size):Below B w w':=
 ⟨h.os,h.tape,h.output,h.size,fun k hk=>h.block k (by omega) (by omega)⟩
theorem Upd.setCell{lo hi:Nat}{a w:World}(h:Upd lo hi a w){p:Addr}(h1:lo≤p.block)(h2:p.block<hi)(u:Value):Upd lo hi a (w.setCell p u):=
 h.trans ⟨rfl,rfl,rfl,by simp,fun k _ hn=>Below.heap_setCell w p u k (by omega)⟩
def inB(v lo hi:Int):Bool:=decide (lo≤v∧v≤hi)
theorem oA{v lo hi:Int}(h:lo≤v∧v≤hi):inB v lo hi=true:=by simp[inB,h]
theorem iD{v lo hi:Int}(h:¬(lo≤v∧v≤hi)):inB v lo hi=false:=by simp only[inB];exact decide_eq_false h
theorem eP(v lo hi:Int)(w:World):
  Calls Tryz.prog 55 #[.int .i64 v,.int .i64 lo,.int .i64 hi] w fun e w'=>e=.returned (.bool (inB v lo hi))∧w=w':=by
 by_cases h1:lo≤v
 ·by_cases h2:v≤hi
  ·rw[oA ⟨h1,h2⟩]
   go_enter Tryz.func55,Tryz.ntmps55
   go_wp2
   go_ret
   exact⟨rfl,rfl⟩
  ·rw[iD (by omega)]
   go_enter Tryz.func55,Tryz.ntmps55
   go_wp2
   go_ret
   exact⟨rfl,rfl⟩
 ·rw[iD (by omega)]
  go_enter Tryz.func55,Tryz.ntmps55
  go_wp2
  go_ret
  exact⟨rfl,rfl⟩
theorem iI(v:Int)(w:World):
  Calls Tryz.prog 49 #[.int .i64 v] w fun e w'=>e=.returned (.bool (inB v 8 512))∧w=w':=by
 by_cases h1:8≤v
 ·by_cases h2:v≤512
  ·rw[oA ⟨h1,h2⟩]
   go_enter Tryz.func49,Tryz.ntmps49
   go_wp2
   go_ret
   exact⟨rfl,rfl⟩
  ·rw[iD (by omega)]
   go_enter Tryz.func49,Tryz.ntmps49
   go_wp2
   go_ret
   exact⟨rfl,rfl⟩
 ·rw[iD (by omega)]
  go_enter Tryz.func49,Tryz.ntmps49
  go_wp2
  go_ret
  exact⟨rfl,rfl⟩
def dgt(x:Int):ByteArray:=ByteArray.empty.push (UInt8.ofNat x.toNat)
theorem aHR(x:Int):(dgt x).size=1:=by simp[dgt,ByteArray.size_push]
theorem aJO(w:World)(x:Int):(convert 105 9 (.slice (some ⟨w.heap.size,0,none⟩) 1 1)).run Tryz.prog (w.alloc (.cells #[.int .u8 x] 5))=.ok (.string (dgt x)) (w.alloc (.cells #[.int .u8 x] 5)):=by
 rw[run_convert_bytes_string _ 105 9 5 _ _ _ Tryz.underlying105 Tryz.underlying5 Tryz.underlying9];rw[run_bytesToString _ _ 1 1 [x] ?_]
 ·rfl
 ·refine run_loadCells_list _ _ ([x].map (Value.int .u8)) ?_
  intro j v hj;match j,hj with
  | 0,hj=>simp at hj;subst hj;simp[Addr.add,World.cell?_alloc_at]
def xW:Nat→Nat→ByteArray→ByteArray
 | 0,_,out=>out
 | n+1,k,out=>if 0<k then xW n (k / 10) (dgt (48+(k:Int) % 10)++out)else out
theorem uY:∀(n m k:Nat) (out:ByteArray),k≤n→k≤m→xW n k out=xW m k out
 | 0,m,k,out,h,_=>by
  obtain rfl:k=0:=by omega
  cases m with
  | zero=>rfl
  | succ m=>unfold xW;rw[if_neg (by omega)]
 | n+1,m,k,out,h,h2=>by
  cases m with
  | zero=>
   obtain rfl:k=0:=by omega
   unfold xW;rw[if_neg (by omega)]
  | succ m=>
   unfold xW;by_cases q:0<k
   ·rw[if_pos q,if_pos q];exact uY n m (k / 10) _ (by omega) (by omega)
   ·rw[if_neg q,if_neg q]
def mkD(k:Nat)(out:ByteArray):ByteArray:=xW k k out
theorem aGM{k:Nat}(h:0<k)(out:ByteArray):mkD k out=mkD (k / 10) (dgt (48+(k:Int) % 10)++out):=by
 unfold mkD;obtain⟨n,rfl⟩:∃n,k=n+1:=⟨k-1,by omega⟩;rw[xW,if_pos h];exact uY _ _ _ _ (by omega) (by omega)
theorem aJD(out:ByteArray):mkD 0 out=out:=rfl
def mkT(k:Nat):ByteArray:={data:=#[109]}++mkD k {data:=#[]}
theorem wL(k:Nat)(w:World)(hk:1≤k)(hk2:k≤1000000000):
  Calls Tryz.prog 38 #[.int .i64 k] w fun e w'=>e=.returned (.string (mkT k))∧Bl w w':=by
 go_enter Tryz.func38,Tryz.ntmps38
 go_wp2
 go_loopw [0,3] (fun kk out wr=>∃(j:Nat) (t:ByteArray),kk=.int .i64 j∧out=.string t∧t.size+j≤1000000000∧Hid (mkD j t=mkD k {data:=#[]})∧Bl w wr) (fun kk _ _=>(intOf kk).toNat)
 case atStart=>exact⟨k,_,rfl,rfl,by rw[show(ByteArray.mk #[]).size=0 from rfl];omega,rfl,bQ _ _⟩
 case round=>
  obtain⟨j,t,rfl,rfl,hj,HM,hb⟩:=hrel;by_cases h0:0<j
  ·have hcv:=aJO wr (48+(j:Int) % 10)
   have hds:=aHR (48+(j:Int) % 10);go_wp2;go_roundw
   case rel=>
    refine⟨j / 10,_,by go_num,rfl,?_,?_,hb.alloc hb.size _⟩
    ·rw[ByteArray.size_append,hds];omega
    ·exact(aGM h0 t).symm.trans HM.out
   case measure=>simp[intOf];omega
  ·have hj0:j=0:=by omega
   subst hj0;go_wp2;go_ret;have:=HM.out;rw[aJD]at this;exact⟨by rw[mkT,←this];rfl,hb⟩
theorem gY(x:Int)(w:World)(hk:1≤x)(hk2:x≤1000000000):
  Calls Tryz.prog 38 #[.int .i64 x] w fun e w'=>e=.returned (.string (mkT x.toNat))∧Bl w w':=by
 have:=wL x.toNat w (by omega) (by omega)
 rw[show((x.toNat:Nat):Int)=x by omega]at this;exact this
theorem tE:(Tryz.prog.info? 2).map (fun i=>(i.zero,i.size,i.bytes))=some (some (.int .i64 0),1,8):=by kernel_rfl
def cY(zs:List Int):Array Value:=(zs.map (Value.int .i64)).toArray
structure Nts(w:World)(v:Value)(zs:List Int):Prop where
 small:∀i,-9223372036854775808≤zs.getD i 0∧zs.getD i 0≤9223372036854775807
 shape:∃a cap,v=.slice a zs.length cap∧(0<zs.length→∃b off,a=some ⟨b,off,none⟩∧∀i,i<zs.length→w.cell? ⟨b,off+i,none⟩=some (.int .i64 (zs.getD i 0)))
theorem Nts.kept{w w':World}{v:Value}{zs:List Int}(h:Nts w v zs)(k:∀b o,b<w.heap.size→w'.cell? ⟨b,o,none⟩=w.cell? ⟨b,o,none⟩):Nts w' v zs:=by
 obtain⟨a,cap,hv,hc⟩:=h.shape;refine⟨h.small,a,cap,hv,fun hp=>?_⟩;obtain⟨b,off,ha,hcell⟩:=hc hp;exact⟨b,off,ha,fun i hi=>(k b _ (World.block_lt_of_cell? _ _ (hcell i hi))).trans (hcell i hi)⟩
theorem Nts.below{w w':World}{v:Value}{zs:List Int}(h:Nts w v zs)(k:Bl w w'):Nts w' v zs:=
 h.kept fun b o hb=>k.cell (p:=⟨b,o,none⟩) hb
theorem Nts.alloc{w:World}{v:Value}{zs:List Int}(h:Nts w v zs)(o:Obj):Nts (w.alloc o) v zs:=
 h.kept fun _ _ hb=>World.cell?_alloc_past _ _ _ hb
def oQ(zs:List Int)(k:Nat):Array Value:=cY (zs.take k++List.replicate (zs.length-k) 0)
theorem vE(zs:List Int)(k j:Nat)(hk:k≤zs.length):(oQ zs k)[j]?=if j<k then some (.int .i64 (zs.getD j 0))else if j<zs.length then some (.int .i64 0)else none:=by
 simp only[oQ,cY,List.getElem?_toArray,List.getElem?_map,List.getElem?_append,List.length_take,List.getElem?_replicate,List.getElem?_take];by_cases hj:j<k
 ·rw[if_pos (show j<min k zs.length by omega),if_pos hj,if_pos hj]
  simp[show j<zs.length by omega]
 ·rw[if_neg (show ¬j<min k zs.length by omega),if_neg hj]
  by_cases hl:j<zs.length
  ·rw[if_pos hl,if_pos (show j-min k zs.length<zs.length-k by omega)];rfl
  ·rw[if_neg hl,if_neg (show ¬j-min k zs.length<zs.length-k by omega)];rfl
theorem zL(zs:List Int)(k:Nat)(hk:k≤zs.length):(oQ zs k).size=zs.length:=by
 simp[oQ,cY];omega
theorem aKG(zs:List Int)(k:Nat)(h:k<zs.length):(oQ zs k).setIfInBounds k (.int .i64 (zs.getD k 0))=oQ zs (k+1):=by
 apply Array.ext_getElem?
 intro j;rw[Array.getElem?_setIfInBounds,vE zs k j (by omega),vE zs (k+1) j (by omega),zL zs k (by omega)];by_cases hj:k=j
 ·subst hj
  simp[h]
 ·rw[if_neg hj]
  by_cases hlt:j<k
  ·rw[if_pos hlt,if_pos (by omega)]
  ·rw[if_neg hlt,if_neg (show ¬j<k+1 by omega)]
theorem uD(v v':Value)(zs:List Int)(w:World)(hv:Nts w v zs)(hv':Nts w v' zs)(hn:zs.length≤8589934592):
  Calls Tryz.prog 11 #[v,v'] w fun e w'=>e=.returned (.bool true)∧∃n,w'=w.drewN n:=by
 obtain⟨a,cap,rfl,hc⟩:=hv.shape;obtain⟨a',cap',rfl,hc'⟩:=hv'.shape;by_cases hz:0<zs.length
 ·obtain⟨b,off,rfl,hcell⟩:=hc hz
  obtain⟨b',off',rfl,hcell'⟩:=hc' hz;have heq:((zs.length:Int) !=(zs.length:Int))=false:=by simp
  clear hc hc';go_enter Tryz.func11,Tryz.ntmps11;go_wp2;go_loopw [5] (fun i wr=>∃k:Nat,k≤zs.length∧i=.int .i64 k∧∃n,wr=w.drewN n) (fun i _=>zs.length -(intOf i).toNat)
  case atStart=>exact⟨0,Nat.zero_le _,rfl,0,rfl⟩
  case round=>
   obtain⟨k,hk,rfl,n,rfl⟩:=hrel;by_cases hlt:k<zs.length
   ·have g1:w.cell? ⟨b,off+k,none⟩=some (.int .i64 (zs.getD k 0)):=hcell k hlt
    have g2:w.cell? ⟨b',off'+k,none⟩=some (.int .i64 (zs.getD k 0)):=hcell' k hlt;have hi:(k:Int) <(zs.length:Int):=by omega
    clear hcell hcell';go_wp2;go_quiet (fail);go_wp2;go_roundw
    case rel=>exact⟨k+1,by omega,by go_num,_,rfl⟩
    case measure=>simp[intOf];omega
   ·go_wp2
    go_ret
    exact⟨rfl,_,rfl⟩
 ·have hz0:zs=[]:=List.eq_nil_of_length_eq_zero (by omega)
  subst hz0;clear hc hc';go_enter Tryz.func11,Tryz.ntmps11;go_wp2;go_loopw [5] (fun i wr=>i=.int .i64 0∧wr=w) (fun _ _=>0)
  case atStart=>exact⟨rfl,rfl⟩
  case round=>
   obtain⟨rfl,rfl⟩:=hrel;go_wp2;go_ret;exact⟨rfl,0,rfl⟩
structure aY(lo hi:Nat)(w:World)(v:Value)(zs:List Int):Prop where
 small:∀i,-9223372036854775808≤zs.getD i 0∧zs.getD i 0≤9223372036854775807
 shape:∃a cap,v=.slice a zs.length cap∧(0<zs.length→∃b off,a=some ⟨b,off,none⟩∧lo≤b∧b<hi∧b<w.heap.size∧∀i,i<zs.length→w.cell? ⟨b,off+i,none⟩=some (.int .i64 (zs.getD i 0))∧w.frozen? ⟨b,off+i,none⟩=false)
theorem aY.nts{lo hi:Nat}{w:World}{v:Value}{zs:List Int}(h:aY lo hi w v zs):Nts w v zs:=by
 obtain⟨a,cap,hv,hc⟩:=h.shape;refine⟨h.small,a,cap,hv,fun hp=>?_⟩;obtain⟨b,off,ha,_,_,_,hcell⟩:=hc hp;exact⟨b,off,ha,fun i hi=>(hcell i hi).1⟩
theorem aY.kept{lo hi:Nat}{w w':World}{v:Value}{zs:List Int}(h:aY lo hi w v zs)(hs:w.heap.size≤w'.heap.size)(k:∀b,lo≤b→b<hi→b<w.heap.size→w'.heap[b]?=w.heap[b]?):aY lo hi w' v zs:=by
 obtain⟨a,cap,hv,hc⟩:=h.shape;refine⟨h.small,a,cap,hv,fun hp=>?_⟩;obtain⟨b,off,ha,h1,h2,h3,hcell⟩:=hc hp;have e:=k b h1 h2 h3;refine⟨b,off,ha,h1,h2,by omega,fun i hi=>?_⟩;rw[World.cell?_of_block (w:=w) (w':=w') (a:=⟨b,off+i,none⟩) e,World.frozen?_of_block (w:=w) (w':=w') (a:=⟨b,off+i,none⟩) e];exact hcell i hi
theorem aY.upd{lo hi lo' hi':Nat}{w w':World}{v:Value}{zs:List Int}(h:aY lo hi w v zs)(k:Upd lo' hi' w w')(hd:hi≤lo'∨hi'≤lo):aY lo hi w' v zs:=
 h.kept k.size fun b h1 h2 h3=>k.block b h3 (by omega)
theorem aY.below{lo hi:Nat}{w w':World}{v:Value}{zs:List Int}(h:aY lo hi w v zs)(k:Bl w w'):aY lo hi w' v zs:=
 h.kept k.size fun b _ _ h3=>k.block b h3
theorem aY.empty(lo hi:Nat)(w:World)(a:Option Addr)(cap:Nat):aY lo hi w (.slice a 0 cap) []:=
 ⟨fun i=>by simp,a,cap,rfl,fun h=>by simp at h⟩
theorem aY.of_row{w:World}{base:Nat}{v:Value}{zs:List Int}(h:w.ownsRow base 2 1 v zs.length (zs.map (Value.int .i64)))(hz:∀i,-9223372036854775808≤zs.getD i 0∧zs.getD i 0≤9223372036854775807):aY base w.heap.size w v zs:=by
 rcases h.2 with⟨hv,hn⟩ | ⟨g,cap,cur,hv,hb,hg,hnc,hcm,hcs,htake⟩
 ·refine⟨hz,none,0,by rw[hv,hn],fun hp=>by omega⟩
 ·subst hv
  have hlt:g<w.heap.size:=by
   by_cases hh:g<w.heap.size
   ·exact hh
   ·simp[show w.heap.size≤g by omega]at hg
  refine⟨hz,_,_,rfl,fun hp=>⟨g,0,rfl,hb,hlt,hlt,fun i hi=>?_⟩⟩;rw[Nat.zero_add];refine⟨?_,h.frozenAt i⟩;rw[h.cellAt i (by omega)];simp[hi]
def dD(base:Nat)(w:World)(v:Value)(zs:List Int):Prop:=w.ownsRow base 2 1 v zs.length (zs.map (Value.int .i64))
theorem dD.own{base:Nat}{w:World}{v:Value}{zs:List Int}(h:dD base w v zs)(hz:∀i,-9223372036854775808≤zs.getD i 0∧zs.getD i 0≤9223372036854775807):aY base w.heap.size w v zs:=aY.of_row h hz
theorem dD.shape{base:Nat}{w:World}{v:Value}{zs:List Int}(h:dD base w v zs):∃a cap,v=.slice a zs.length cap:=by
 rcases h.2 with⟨hv,hn⟩ | ⟨g,cap,cur,hv,_⟩
 ·exact⟨none,0,by rw[hv,hn]⟩
 ·exact⟨_,_,hv⟩
theorem dD.start(base:Nat)(w:World):dD base w (.slice none 0 0) []:=World.ownsRow_nil w base 2 1
theorem dD.lit(base:Nat)(w:World)(hb:base≤w.heap.size)(g:Nat)(hg:g=w.heap.size):dD base (w.alloc (.cells #[] 2)) (.slice (some ⟨g,0,none⟩) 0 0) []:=by
 subst hg;exact World.ownsRow_lit (e:=2) (size:=1) w #[] 0 hb (by decide) rfl
theorem kD{ops:Array Oper}{rest:List Oper}{o:Oper}{a:Act}{Q:Exit→Act→World→Prop}(hgd:o.guard=none)(s x:Operand)
  (ho:o.op=.call {callee:=.builtin .append,args:=#[s,x],argTypes:=#[24,24]})
  {base:Nat} {w0:World} {v:Value} {zs:List Int} (c:Int) (hown:dD base w0 v zs) (hs:a.eval s=v) (hx:a.eval x=.slice (some ⟨w0.heap.size,0,none⟩) 1 1)
  (hlen:zs.length<8589934592) (hb:base≤w0.heap.size)
  (h:∀v' w',dD base w' v' (zs++[c])→Below base w0 w'→w0.heap.size≤w'.heap.size→(w0.alloc (.cells #[.int .i64 c] 2)).grownBy w' v.ownBlock→wpList Tryz.prog ops Q rest (a.put o.dst v') w'):
  wpList Tryz.prog ops Q (o :: rest) a (w0.alloc (.cells #[.int .i64 c] 2)):=by
 obtain⟨i0,hi,hz0,hz1,hz2⟩:=info_parts tE;refine wpList_append_own _ hgd s x 24 ho base 2 i0 (.int .i64 0) 1 8 Tryz.underlying24 hi hz0 hz1 hz2 rfl (by decide) v _ _ hs (hown.alloc _) ⟨w0.heap.size,0,none⟩ 1 1 [.int .i64 c] hx rfl ?_ ?_ ?_ ?_ ?_ ?_
 ·intro j u hj
  match j,hj with
  | 0,hj=>simp at hj;subst hj;simp[Addr.add,World.cell?_alloc_at]
 ·intro u hu;simp at hu;subst hu;rfl
 ·unfold maxLen;omega
 ·omega
 ·simp;omega
 ·intro v' w' h1 h2 _
  have hb1:Below base w0 w':=((bQ base w0).alloc hb _).grown h2 (by simp;omega) (fun k hk=>(hown.lt k hk).1);refine h v' w' ?_ hb1 (by have:=h2.size;simp at this;omega) h2;unfold dD;simpa using h1
theorem aY.stored{lo hi:Nat}{w:World}{b off n cap:Nat}{zs:List Int}(h:aY lo hi w (.slice (some ⟨b,off,none⟩) n cap) zs)(j:Nat)(hj:j<n)(x:Int)(hx:-9223372036854775808≤x∧x≤9223372036854775807):
  aY lo hi (w.setCell ⟨b,off+j,none⟩ (.int .i64 x)) (.slice (some ⟨b,off,none⟩) n cap) (zs.set j x)∧Upd lo hi w (w.setCell ⟨b,off+j,none⟩ (.int .i64 x)):=by
 obtain⟨a,cap',hv,hc⟩:=h.shape;simp only[Value.slice.injEq]at hv;obtain⟨rfl,rfl,rfl⟩:=hv;obtain⟨b',off',ha,h1,h2,h3,hcell⟩:=hc (by omega);simp only[sJ,Addr.mk.injEq,and_true]at ha;obtain⟨rfl,rfl⟩:=ha;refine⟨⟨fun i=>?_,_,_,by rw[List.length_set],fun _=>⟨b,off,rfl,h1,h2,by simpa using h3,fun i hi=>?_⟩⟩,(Upd.refl _ _ _).setCell h1 h2 _⟩
 ·have hs:=h.small i
  simp only[gD]at hs ⊢;rw[List.getElem?_set];by_cases hij:j=i
  ·rw[if_pos hij,if_pos (by omega)];simpa using hx
  ·rw[if_neg hij];exact hs
 ·rw[List.length_set]at hi
  have hci:=hcell i hi;refine⟨?_,by simpa using hci.2⟩;simp only[gD];rw[List.getElem?_set];by_cases hij:j=i
  ·subst hij
   rw[if_pos rfl,if_pos hi,World.cell?_setCell_same _ _ _ hci.1];rfl
  ·rw[if_neg hij,World.cell?_setCell_other _ _ _ _ (by intro hh;simp only[Addr.mk.injEq]at hh;omega),hci.1];rfl
def kR(k:Int)(n:Nat):List Int:=(List.range n).map fun(i:Nat)=>k+(i:Int)
theorem jW(k:Int)(n:Nat):(kR k n).length=n:=by simp[kR]
theorem aEF(k:Int)(n i:Nat)(h:i<n):(kR k n).getD i 0=k+(i:Int):=by
 simp[kR,h]
def iP(k:Int)(zs:List Int)(j:Nat):List Int:=kR k j++zs.drop j
theorem yZ(k:Int)(zs:List Int):iP k zs 0=zs:=by simp[iP,kR]
theorem aAW(k:Int)(zs:List Int):iP k zs zs.length=kR k zs.length:=by simp[iP]
theorem uL(k:Int)(zs:List Int)(j:Nat)(h:j≤zs.length):(iP k zs j).length=zs.length:=by
 simp[iP,jW];omega
theorem aAH(k:Int)(zs:List Int)(j:Nat)(h:j<zs.length):(iP k zs j).set j (k+(j:Int))=iP k zs (j+1):=by
 apply List.ext_getElem?
 intro i;rw[List.getElem?_set];simp only[iP,kR,List.getElem?_append,List.length_map,List.length_range,List.getElem?_map,List.getElem?_drop,lP,List.length_drop];by_cases hij:j=i
 ·subst hij
  rw[if_pos rfl,if_pos (by omega),if_pos (by omega)];simp
 ·rw[if_neg hij]
  by_cases hlt:i<j
  ·rw[if_pos hlt,if_pos (by omega)]
   simp[hlt,show i<j+1 by omega]
  ·rw[if_neg hlt,if_neg (by omega),show j+(i-j)=j+1+(i -(j+1)) by omega]
theorem kO(lo hi:Nat)(v:Value)(zs:List Int)(k:Int)(w:World)(hv:aY lo hi w v zs)(hk:0≤k)(hn:k+zs.length≤9223372036854775806):
  Calls Tryz.prog 14 #[v,.int .i64 k] w fun e w'=>e=.returned (.int .i64 (k+zs.length))∧aY lo hi w' v (kR k zs.length)∧Upd lo hi w w':=by
 obtain⟨a,cap,rfl,hc⟩:=hv.shape;by_cases hz:0<zs.length
 ·obtain⟨b,off,rfl,h1,h2,h3,_⟩:=hc hz
  clear hc;go_enter Tryz.func14,Tryz.ntmps14;go_wp2;go_loopw [1,5] (fun q i wr=>∃j:Nat,j≤zs.length∧i=.int .i64 j∧q=.int .i64 (k+j)∧aY lo hi wr (.slice (some ⟨b,off,none⟩) zs.length cap) (iP k zs j)∧Upd lo hi w wr) (fun _ i _=>zs.length -(intOf i).toNat)
  case atStart=>exact⟨0,Nat.zero_le _,rfl,by simp,by rw[yZ];exact hv,Upd.refl _ _ _⟩
  case round=>
   obtain⟨j,hj,rfl,rfl,ho,hu⟩:=hrel;by_cases hlt:j<zs.length
   ·have hst:=ho.stored j hlt (k+(j:Int)) (by omega)
    rw[aAH k zs j hlt]at hst;have HS:=hst;have hcf:wr.cell? ⟨b,off+j,none⟩=some (.int .i64 ((iP k zs j).getD j 0))∧wr.frozen? ⟨b,off+j,none⟩=false:=by
     obtain⟨a',cap',hv',hc'⟩:=ho.shape;simp only[Value.slice.injEq]at hv';obtain⟨rfl,_,rfl⟩:=hv';have hlen:=uL k zs j hj;obtain⟨b',off',ha',_,_,_,hcell⟩:=hc' (by omega);simp only[sJ,Addr.mk.injEq,and_true]at ha';obtain⟨rfl,rfl⟩:=ha';exact hcell j (by omega)
    obtain⟨hc1,hc2⟩:=hcf;have hu2:=hu.trans hst.2;have ho2:=hst.1;clear hst HS ho hu;go_wp2;go_roundw
    case rel=>exact⟨j+1,by omega,by go_num,by go_num,ho2,hu2⟩
    case measure=>simp[intOf];omega
   ·have hje:zs.length=j:=by omega
    have ho2:aY lo hi wr (.slice (some ⟨b,off,none⟩) zs.length cap) (kR k zs.length):=by rw[←aAW,hje];rw[hje]at ho;exact ho
    have HJ:Hid (zs.length=j):=hje;clear ho hje;go_wp2;go_ret;exact⟨by rw[HJ.out];rfl,ho2,hu⟩
 ·have hz0:zs=[]:=List.eq_nil_of_length_eq_zero (by omega)
  subst hz0;clear hc;go_enter Tryz.func14,Tryz.ntmps14;go_wp2;go_loopw [1,5] (fun q i wr=>i=.int .i64 0∧q=.int .i64 k∧w=wr) (fun _ _ _=>0)
  case atStart=>exact⟨rfl,rfl,rfl⟩
  case round=>
   obtain⟨rfl,rfl,rfl⟩:=hrel;go_wp2;go_ret;exact⟨by simp,hv,Upd.refl _ _ _⟩
theorem kN(v:Value)(k:Int)(n:Nat)(w:World)(hv:Nts w v (kR k n))(hk:0≤k)(hn:k+n≤9223372036854775806):
  Calls Tryz.prog 15 #[v,.int .i64 k] w fun e w'=>e=.returned (.int .i64 (k+n))∧w=w':=by
 obtain⟨a,cap,rfl,hc⟩:=hv.shape;rw[jW]at hc;rw[jW];by_cases hz:0<n
 ·obtain⟨b,off,rfl,hcell⟩:=hc hz
  clear hc;go_enter Tryz.func15,Tryz.ntmps15;go_wp2;go_loop [1,5] (fun q i=>∃j:Nat,j≤n∧i=.int .i64 j∧q=.int .i64 (k+j)) (fun _ i=>n -(intOf i).toNat)
  case atStart=>exact⟨0,Nat.zero_le _,rfl,by simp⟩
  case round=>
   obtain⟨j,hj,rfl,rfl⟩:=hrel;by_cases hlt:j<n
   ·have hc1:w.cell? ⟨b,off+j,none⟩=some (.int .i64 (k+(j:Int))):=by rw[hcell j hlt,aEF k n j hlt]
    clear hcell;go_wp2;go_round
    case rel=>exact⟨j+1,by omega,by go_num,by go_num⟩
    case measure=>simp[intOf];omega
   ·have HJ:Hid (n=j):=(by omega:n=j)
    go_wp2
    go_ret
    exact⟨by rw[HJ.out];rfl,rfl⟩
 ·have hz0:n=0:=by omega
  subst hz0;clear hc;go_enter Tryz.func15,Tryz.ntmps15;go_wp2;go_loop [1,5] (fun q i=>i=.int .i64 0∧q=.int .i64 k) (fun _ _=>0)
  case atStart=>exact⟨rfl,rfl⟩
  case round=>
   obtain⟨rfl,rfl⟩:=hrel;go_wp2;go_ret;exact⟨by simp,rfl⟩
theorem eJ(v v':Value)(zs:List Int)(w:World)(hv:Nts w v zs)(hv':Nts w v' zs)(hn:zs.length≤8589934592):
  Calls Tryz.prog 11 #[v,v'] w fun e w'=>e=.returned (.bool true)∧Bl w w':=by
 refine(uD v v' zs w hv hv' hn).mono fun e w' hq=>?_;obtain⟨rfl,n,rfl⟩:=hq;exact⟨rfl,below_drewN (bQ _ _) n⟩
def LRd(w:World)(v:Value)(zss:List (List Int)):Prop:=
 ∃b off cap,v=.slice (some ⟨b,off,none⟩) zss.length cap∧∀i,i<zss.length→∃a c,w.cell? ⟨b,off+i,none⟩=some (.slice a (zss.getD i []).length c)∧Nts w (.slice a (zss.getD i []).length c) (zss.getD i [])
def fO(n:Nat)(zs:List Int):Bool:=!(inB zs.length 8 512) || (zs.length:Int) !=(n:Int)
def eQ(zs:List Int):Bool:=zs.any fun z=>!(inB z 0 65535)
def fL(zs:List Int):Bool:=zs.getD 0 0 != 0 || zs.getD 1 0 != 0
def chk(zss:List (List Int)):Int:=if zss.any (fO (zss.getD 0 []).length)then 1 else if zss.any eQ then 2 else if zss.any fL then 5 else 0
theorem wY{α:Type}{p:α→Bool}{l:List α}{d:α}{i:Nat}(hi:i<l.length)(h:p (l.getD i d)=true):l.any p=true:=by
 refine List.any_eq_true.2 ⟨l.getD i d,?_,h⟩;simp[hi]
theorem oV{α:Type}{p:α→Bool}{l:List α}(d:α)(h:∀i,i<l.length→p (l.getD i d)=false):l.any p=false:=by
 rw[List.any_eq_false];intro x hx;obtain⟨i,hi,rfl⟩:=List.mem_iff_getElem.1 hx;have:=h i hi;simpa [hi] using this
theorem pY(v:Value)(zss:List (List Int))(w:World)(hv:LRd w v zss)(h0:0<zss.length)(hn:zss.length≤1048576)(hl:∀i,(zss.getD i []).length≤1048576):
  Calls Tryz.prog 154 #[v] w fun e w'=>e=.returned (.int .i64 (chk zss))∧w=w':=by
 obtain⟨b,off,cap,rfl,hcell⟩:=hv;obtain⟨a0,c0,e0,n0⟩:=hcell 0 h0;rw[Nat.add_zero]at e0;obtain⟨z0,HZ⟩:∃z0,Hid (zss.getD 0 []=z0):=⟨_,rfl⟩;rw[HZ.out]at e0;have hl0:z0.length≤1048576:=by rw[←HZ.out];exact hl 0
 go_enter Tryz.func154,Tryz.ntmps154
 go_wp2
 go_loop [13] (fun i=>∃k:Nat,k≤zss.length∧i=.int .i64 k∧∀j,j<k→fO z0.length (zss.getD j [])=false) (fun i=>zss.length -(intOf i).toNat)
 case atStart=>exact⟨0,Nat.zero_le _,rfl,fun j hj=>by omega⟩
 case round=>
  obtain⟨k,hk,rfl,hall⟩:=hrel;by_cases hlt:k<zss.length
  ·obtain⟨a,c,e1,n1⟩:=hcell k hlt
   have hlk:=hl k;have HB:Hid (fO z0.length (zss.getD k [])=(!(inB (zss.getD k []).length 8 512) || ((zss.getD k []).length:Int) !=(z0.length:Int))):=rfl;have HE:Hid (fO z0.length (zss.getD k [])=true→chk zss=1):=fun h=>if_pos (wY hlt (by rw[HZ.out];exact h));generalize hzk:zss.getD k []=zk at *;clear hcell;go_wp2_with fail;refine(eP _ _ _ _).mono ?_;rintro e w' ⟨rfl,rfl⟩;by_cases hb:inB zk.length 8 512=true
   ·rw[hb]
    by_cases he:zk.length=z0.length
    ·have hne:((zk.length:Int) !=(z0.length:Int))=false:=by simp[he]
     have hbl:fO z0.length zk=false:=by rw[HB.out,hb,hne];rfl
     clear hb he;go_wp2;go_round
     case rel=>
      refine⟨k+1,by omega,by go_num,fun j hj=>?_⟩;by_cases hjk:j=k
      ·rw[hjk,hzk];exact hbl
      ·exact hall j (by omega)
     case measure=>simp[intOf];omega
    ·have hne:((zk.length:Int) !=(z0.length:Int))=true:=by simp;omega
     have hbl:fO z0.length zk=true:=by rw[HB.out,hb,hne];rfl
     have HC:Hid (chk zss=1):=HE.out hbl;clear hb he;go_wp2;go_ret;exact⟨by rw[HC.out];rfl,rfl⟩
   ·have hb':inB zk.length 8 512=false:=by simpa using hb
    have hbl:fO z0.length zk=true:=by rw[HB.out,hb'];rfl
    have HC:Hid (chk zss=1):=HE.out hbl;rw[hb'];clear hb hb';go_wp2;go_ret;exact⟨by rw[HC.out];rfl,rfl⟩
  ·have hA:zss.any (fO z0.length)=false:=oV [] fun i hi=>hall i (by omega)
   have HC:Hid (chk zss=if zss.any eQ then 2 else if zss.any fL then 5 else 0):=by unfold chk;rw[HZ.out,hA];rfl
   have hlen:∀i,i<zss.length→8≤(zss.getD i []).length:=fun i hi=>by
    have:=hall i (by omega)
    simp only[fO,Bool.or_eq_false_iff,Bool.not_eq_false',inB,decide_eq_true_eq]at this;omega
   clear hA hall e0 n0;go_wp2;go_loop [33] (fun i=>∃k:Nat,k≤zss.length∧i=.int .i64 k∧∀j,j<k→eQ (zss.getD j [])=false) (fun i=>zss.length -(intOf i).toNat)
   case atStart=>exact⟨0,Nat.zero_le _,rfl,fun j hj=>by omega⟩
   case round=>
    obtain⟨k,hk,rfl,hall⟩:=hrel;by_cases hlt:k<zss.length
    ·obtain⟨a,c,e1,n1⟩:=hcell k hlt
     have hlk:=hl k;have hlk8:=hlen k hlt;have HE:Hid (eQ (zss.getD k [])=true→chk zss=2):=fun h=>by rw[HC.out];exact if_pos (wY hlt h)
     generalize hzk:zss.getD k []=zk at *;obtain⟨a1,c1,hv1,hc0⟩:=n1.shape;simp only[Value.slice.injEq,true_and]at hv1;obtain⟨rfl,rfl⟩:=hv1;obtain⟨b1,o1,rfl,hc1⟩:=hc0 (by omega);clear hcell n1 hc0;go_wp2;go_loop [39] (fun i=>∃q:Nat,q≤zk.length∧i=.int .i64 q∧∀j,j<q→inB (zk.getD j 0) 0 65535=true) (fun i=>zk.length -(intOf i).toNat)
     case atStart=>exact⟨0,Nat.zero_le _,rfl,fun j hj=>by omega⟩
     case round=>
      obtain⟨q,hq,rfl,hin⟩:=hrel;by_cases hlq:q<zk.length
      ·have g1:=hc1 q hlq
       have HP:Hid (inB (zk.getD q 0) 0 65535=false→eQ zk=true):=fun h=>wY (d:=0) hlq (by rw[h];rfl);generalize hzq:zk.getD q 0=z at *;clear hc1;go_wp2_with fail;refine(eP _ _ _ _).mono ?_;rintro e w' ⟨rfl,rfl⟩;by_cases hb:inB z 0 65535=true
       ·rw[hb]
        go_wp2
        go_round
        case rel=>
         refine⟨q+1,by omega,by go_num,fun j hj=>?_⟩;by_cases hjq:j=q
         ·rw[hjq,hzq];exact hb
         ·exact hin j (by omega)
        case measure=>simp[intOf];omega
       ·have hb':inB z 0 65535=false:=by simpa using hb
        have HC2:Hid (chk zss=2):=HE.out (HP.out hb');rw[hb'];clear hb hb';go_wp2;go_ret;exact⟨by rw[HC2.out];rfl,rfl⟩
      ·have hok:eQ zk=false:=oV 0 fun i hi=>by rw[hin i (by omega)];rfl
       clear hin hc1;go_wp2;go_round
       case rel=>
        refine⟨k+1,by omega,by go_num,fun j hj=>?_⟩;by_cases hjk:j=k
        ·rw[hjk,hzk];exact hok
        ·exact hall j (by omega)
       case measure=>simp[intOf];omega
    ·have hA:zss.any eQ=false:=oV [] fun i hi=>hall i (by omega)
     have HC':Hid (chk zss=if zss.any fL then 5 else 0):=by rw[HC.out,hA];rfl
     clear hA hall;go_wp2;go_loop [50] (fun i=>∃k:Nat,k≤zss.length∧i=.int .i64 k∧∀j,j<k→fL (zss.getD j [])=false) (fun i=>zss.length -(intOf i).toNat)
     case atStart=>exact⟨0,Nat.zero_le _,rfl,fun j hj=>by omega⟩
     case round=>
      obtain⟨k,hk,rfl,hall⟩:=hrel;by_cases hlt:k<zss.length
      ·obtain⟨a,c,e1,n1⟩:=hcell k hlt
       have hlk:=hl k;have hlk8:=hlen k hlt;have HE:Hid (fL (zss.getD k [])=true→chk zss=5):=fun h=>by rw[HC'.out];exact if_pos (wY hlt h)
       have HB:Hid (fL (zss.getD k [])=((zss.getD k []).getD 0 0 != 0 || (zss.getD k []).getD 1 0 != 0)):=rfl;generalize hzk:zss.getD k []=zk at *;obtain⟨a1,c1,hv1,hc0⟩:=n1.shape;simp only[Value.slice.injEq,true_and]at hv1;obtain⟨rfl,rfl⟩:=hv1;obtain⟨b1,o1,rfl,hc1⟩:=hc0 (by omega);have g0:=hc1 0 (by omega);have g1:=hc1 1 (by omega);rw[Nat.add_zero]at g0;generalize zk.getD 0 0=x at *;generalize zk.getD 1 0=y at *;have hl1:(1:Int) <(zk.length:Int):=by omega
       have hl0:0<zk.length:=by omega
       clear hcell n1 hc1 hc0;by_cases hx:x=0
       ·by_cases hy:y=0
        ·subst hx hy
         have hok:fL zk=false:=by rw[HB.out];rfl
         go_wp2
         go_round
         case rel=>
          refine⟨k+1,by omega,by go_num,fun j hj=>?_⟩;by_cases hjk:j=k
          ·rw[hjk,hzk];exact hok
          ·exact hall j (by omega)
         case measure=>simp[intOf];omega
        ·have hy':(y != 0)=true:=by simpa using hy
         have HC2:Hid (chk zss=5):=HE.out (by rw[HB.out,hy'];simp);subst hx;clear hy;go_wp2;go_ret;exact⟨by rw[HC2.out];rfl,rfl⟩
       ·have hx':(x != 0)=true:=by simpa using hx
        have HC2:Hid (chk zss=5):=HE.out (by rw[HB.out,hx'];rfl);clear hx;go_wp2;go_ret;exact⟨by rw[HC2.out];rfl,rfl⟩
      ·have hA:zss.any fL=false:=oV [] fun i hi=>hall i (by omega)
       have HC2:Hid (chk zss=0):=by rw[HC'.out,hA];rfl
       clear hA hall hcell;go_wp2;go_ret;exact⟨by rw[HC2.out];rfl,rfl⟩
section
variable {P : Program} {ops : Array Oper} {Q : Exit → Act → World → Prop} {md : Region.Mode} {S : World → Prop} {L : Nat}
def dX(P:Program)(md:Region.Mode)(ops:Array Oper)(Q:Exit→Act→World→Prop)(S:World→Prop)(L:Nat):Nat→Array Bool→Act→World→Prop
 | 0,listed,a,w=>Region.ready md ops listed=[]∧Q .normal a w
 | fuel+1,listed,a,w=>
  (Region.ready md ops listed=[]→Q .normal a w)∧
  ∀i∈Region.ready md ops listed,wpOp P ops Q i (fun a' w'=>(i≠L→S w')∧dX P md ops Q S L fuel (listed.setIfInBounds i true) a' w') a w
theorem mT:∀(fuel:Nat) (listed:Array Bool) (a:Act) (w:World),dX P md ops Q S L fuel listed a w→wpAny P md ops Q fuel listed a w
 | 0,_,_,_,h=>h
 | fuel+1,_,_,_,h=>⟨h.1,fun i hi=>wpOp_mono (fun a' w' h'=>mT fuel _ a' w' h'.2) (h.2 i hi)⟩
theorem aAS{i:Nat}{oi:Oper}{fuel:Nat}{listed:Array Bool}{a:Act}{w:World}(hr:Region.ready md ops listed=[i])(hi:ops[i]?=some oi)(hg:oi.guard=none)
  (h:∀K':Act→World→Prop,(∀a' w',(i≠L→S w')→dX P md ops Q S L fuel (listed.setIfInBounds i true) a' w'→K' a' w')→oi.wp P a w K' Q):dX P md ops Q S L (fuel+1) listed a w:=by
 refine⟨fun h0=>by simp[hr]at h0,fun j hj=>?_⟩;rw[hr]at hj;simp only[List.mem_singleton]at hj;subst hj;unfold wpOp;simp only[hi];rw[if_pos (by simp[Region.wanted,hg])];exact .inl (h _ fun _ _ h1 h2=>⟨h1,h2⟩)
theorem oE(i:Nat){oi:Oper}{fuel:Nat}{listed:Array Bool}{a:Act}{w:World}(hi:ops[i]?=some oi)(h:∀K':Act→World→Prop,(∀a' w',(i≠L→S w')→dX P md ops Q S L fuel (listed.setIfInBounds i true) a' w'→K' a' w')→oi.wp P a w K' Q)(hr:Region.ready md ops listed=[i]:=by kernel_rfl)(hg:oi.guard=none:=by rfl):dX P md ops Q S L (fuel+1) listed a w:=aAS hr hi hg h
theorem aV{listed:Array Bool}{a:Act}{w:World}(hr:Region.ready md ops listed=[])(h:Q .normal a w):∀fuel,dX P md ops Q S L fuel listed a w
 | 0=>⟨hr,h⟩
 | _+1=>⟨fun _=>h,by rw[hr];simp⟩
theorem aZ(S:World→Prop)(L:Nat){id:Nat}{a:Act}{w:World}(hm:P.follows .mixedOrders=true)
  (h:dX P .any ops Q S L ops.size (Array.replicate ops.size false) a w.drew):(Code.region id ops true).wp P Q a w:=
 wp_region_any hm (mT _ _ _ _ h)
end
end Go.Proofs.YtaahkgkdpnnhhaaGreat
namespace Go.Proofs.YtaahkgkdpnnhhaaGreat
open Go.RowKit
def fJ(B:Int):Int:=if 8≤B∧B≤512 then(B+17) / 20 else 0
theorem qM(B:Int)(w:World):
  Calls Tryz.prog 114 #[.int .i64 B] w fun e w'=>e=.returned (.int .i64 (fJ B))∧w=w':=by
 by_cases hB:8≤B∧B≤512
 ·have hb:=oA hB
  have HR:Hid (fJ B=(B+17) / 20):=if_pos hB;have hd:(B-2+20-1).tdiv 20=(B+17) / 20:=by rw[Int.tdiv_eq_ediv_of_nonneg (by omega)];congr 1;omega
  go_enter Tryz.func114,Tryz.ntmps114
  go_wp2_with fail
  refine(eP _ _ _ _).mono ?_;rintro e w' ⟨rfl,rfl⟩;go_wp2;go_ret;exact⟨by rw[HR.out];go_num,rfl⟩
 ·have hb:=iD hB
  have HR:Hid (fJ B=0):=if_neg hB;go_enter Tryz.func114,Tryz.ntmps114;go_wp2_with fail;refine(eP _ _ _ _).mono ?_;rintro e w' ⟨rfl,rfl⟩;go_wp2;go_ret;exact⟨by rw[HR.out];rfl,rfl⟩
theorem qC(B:Int)(w:World):
  Calls Tryz.prog 92 #[.int .i64 B] w fun e w'=>e=.returned (.int .i64 (fJ B))∧w=w':=by
 by_cases hB:8≤B∧B≤512
 ·have hb:=oA hB
  have HR:Hid (fJ B=(B+17) / 20):=if_pos hB;go_enter Tryz.func92,Tryz.ntmps92;go_wp2_with fail;refine(iI _ _).mono ?_;rintro e w' ⟨rfl,rfl⟩;go_wp2;go_loop [3] (fun i=>∃k:Nat,((k:Int)-1)*20<B-2∧i=.int .i64 k) (fun i=>600 -(intOf i).toNat)
  case atStart=>exact⟨0,by omega,rfl⟩
  case round=>
   obtain⟨k,hk,rfl⟩:=hrel;by_cases hlt:(k:Int)*20<B-2
   ·go_wp2
    go_round
    case rel=>exact⟨k+1,by omega,by go_num⟩
    case measure=>simp[intOf];omega
   ·go_wp2
    go_ret
    exact⟨by rw[HR.out,show(B+17) / 20=(k:Int) by omega];rfl,rfl⟩
 ·have hb:=iD hB
  have HR:Hid (fJ B=0):=if_neg hB;go_enter Tryz.func92,Tryz.ntmps92;go_wp2_with fail;refine(iI _ _).mono ?_;rintro e w' ⟨rfl,rfl⟩;go_wp2;go_ret;exact⟨by rw[HR.out];rfl,rfl⟩
