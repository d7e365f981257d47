import Derived.Deep.AppendSrc
import Derived.Deep.RegionHeld3
import Derived.Deep.RegionLaw
import Derived.Deep.Upon
import Derived.Test.YtmpagpeenjddgaaGreatInv
import Derived.Test.YtmpagpeenjddgaaGreatFo24
set_option maxHeartbeats 9999999
set_option maxRecDepth 99999
set_option linter.all false
namespace Go.Proofs.YtmpagpeenjddgaaGreat
open Go.RowKit Fo
variable{a:Act}{p:Addr}{ops:Array Oper}{cs:Array Value}{Q:Exit->Act->World->Prop}{g i:Nat}{S:Nat->Prop}{o:Oper}{P:Program}{α:Type}{t:TypeId}{w w':World}
def IsC(w:World)(g:Nat)(cs:Array Value)(t:TypeId):Prop:=w.heap[g]?=some (.cells cs t (0,0))
theorem IsC.lt(h:IsC w g cs t):g<w.heap.size:=(Array.getElem?_eq_some_iff.1 h).1
theorem IsC.cell(h:IsC w g cs t)(i:Nat):w.cell? (aD g i)=cs[i]?:=by
 unfold IsC at h;simp[World.cell?,h]
theorem IsC.frozen(h:IsC w g cs t)(i:Nat):w.frozen? (aD g i)=false:=by
 unfold IsC at h;simp[World.frozen?,h]
theorem IsC.of(h:IsC w g cs t)(he:w'.heap[g]?=w.heap[g]?):IsC w' g cs t:=he.trans h
theorem IsC.drew(h:IsC w g cs t):IsC w.drew g cs t:=h
theorem mL(w:World)(o:Obj)(h:g<w.heap.size):(w.alloc o).heap[g]?=w.heap[g]?:=by
 have:=((bQ w.heap.size w).alloc (nR _) o).block g h
 exact this
theorem IsC.alloc(h:IsC w g cs t)(o:Obj):IsC (w.alloc o) g cs t:=h.of (mL w o h.lt)
theorem IsC.new(w:World)(cs:Array Value)(t:TypeId):IsC (w.alloc (.cells cs t)) w.heap.size cs t:=by
 show(w.heap.push _)[w.heap.size]?=_
 simp
theorem IsC.c(h:IsC w g cs t){k:Nat}{v:Value}(e:cs[k]?=some v):w.cell? (aD g k)=some v:=(h.cell k).trans e
theorem iNw{w1:World}(h:w.alloc (.cells cs t)=w1)(a:w.heap.size=g):IsC w1 g cs t:=by rw[<-h,<-a];exact IsC.new _ _ _
theorem aU(w:World)(v:Value)(h:g≠p.block):(w.setCell p v).heap[g]?=w.heap[g]?:=by
 simp[World.setCell,Array.getElem?_modify,Ne.symm h]
theorem IsC.set(h:IsC w g cs t)(i:Nat)(v:Value):IsC (w.setCell (aD g i) v) g (cs.setIfInBounds i v) t:=by
 unfold IsC at *;simp[World.setCell,Array.getElem?_modify,h]
theorem IsC.set_ne(h:IsC w g cs t)(v:Value)(a:g≠p.block):IsC (w.setCell p v) g cs t:=h.of (aU w v a)
def aK(e:E3):List Value:=[.string e.1,.string e.2.1,iV e.2.2]
def cC(es:List E3):Array Value:=(es.flatMap aK).toArray
theorem aH(es:List E3):(es.flatMap aK).length=es.length*3:=by
 induction es with
 | nil=>rfl
 | cons e es ih=>simp only[List.flatMap_cons,lP,ih,List.length_cons];simp[aK];omega
theorem fY(es:List E3):(cC es).size=es.length*3:=by unfold cC;rw[List.size_toArray,aH]
theorem kY(es:List E3)(b:i<es.length):(es.flatMap aK)[i*3]?=some (.string (es.getD i e0).1)/\(es.flatMap aK)[i*3+1]?=some (.string (es.getD i e0).2.1)/\(es.flatMap aK)[i*3+2]?=some (iV (es.getD i e0).2.2):=by
 induction es generalizing i with
 | nil=>simp at b
 | cons e es ih=>
  cases i with
  | zero=>simp[aK]
  | succ i=>
   have:=ih (i:=i) (by simpa using b)
   have c:(e :: es).flatMap aK=aK e++es.flatMap aK:=List.flatMap_cons;have a:(aK e).length=3:=rfl;rw[c];rw[List.getElem?_append_right (by rw[a];omega),List.getElem?_append_right (by rw[a];omega),List.getElem?_append_right (by rw[a];omega),a];rw[show(i+1)*3-3=i*3 by omega,show(i+1)*3+1-3=i*3+1 by omega,show(i+1)*3+2-3=i*3+2 by omega];simpa using this
theorem aKC(es:List E3)(a:i<es.length):(cC es)[i*3]?=some (.string (es.getD i e0).1)/\(cC es)[i*3+1]?=some (.string (es.getD i e0).2.1)/\(cC es)[i*3+2]?=some (iV (es.getD i e0).2.2):=by
 simpa [cC] using kY es a
def adr(a:Option Nat):Option Addr:=a.map fun g=>⟨g,0,none⟩
structure aN(w:World)(q:Nat)(d:Nd)(a:Option Nat)(junk:List E3):Prop where
 box:IsC w q #[iV d.1,.slice (adr a) d.2.length (d.2.length+junk.length)] 96
 arr:∀g,a=some g->IsC w g (cC (d.2++junk)) 130/\g≠q
 nil:a=none->d.2=[]/\junk=[]
 small:d.2.length+junk.length<=maxLen
theorem nW(q:Nat)(d:Nd)(a:Option Nat)(b:List E3)(w:World)(h:aN w q d a b):
  Calls Tryz.prog 98 #[pT q 0] w fun e w'=>e=.returned (.bool (decide (d.2.length=5)))/\w'=w:=by
 have c:w.cell? (aD q 1)=some (.slice (adr a) d.2.length (d.2.length+b.length)):=by rw[h.box.cell];rfl
 have f:d.2.length+b.length<=9223372036854775807:=by have:=h.small;simp[maxLen]at this;omega
 go_enter Tryz.func98,Tryz.ntmps98
 go_wp2
 go_ret
 exact⟨by simp;congr 1;rw[Bool.eq_iff_iff];simp;omega,rfl⟩
def spl(l:List α)(o:Nat)(vs:List α):List α:=l.take o++vs++l.drop (o+vs.length)
theorem aMT(l:List α)(o:Nat):spl l o []=l:=by simp[spl]
theorem aKN(l:List α)(o:Nat)(v:α)(vs:List α)(h:o<l.length):spl (l.set o v) (o+1) vs=spl l o (v :: vs):=by
 unfold spl;have a:(l.set o v).take (o+1)=l.take o++[v]:=by
  rw[List.set_eq_take_append_cons_drop,if_pos h,List.take_append,List.length_take,List.take_take];rw[show o+1-min o l.length=1 by omega,show min (o+1) o=o by omega];rfl
 have b:(l.set o v).drop (o+1+vs.length)=l.drop (o+(v :: vs).length):=by
  rw[List.drop_set_of_lt (by omega)];congr 1;simp;omega
 rw[a,b];simp
theorem IsC.a8:∀(vs:List Value) {w:World} {cs:List Value} (o:Nat),IsC w g cs.toArray t->o+vs.length<=cs.length->IsC (w.setCells g o vs) g (spl cs o vs).toArray t
 | [],w,cs,o,h,a=>by rw[aMT];exact h
 | v :: vs,w,cs,o,h,a=>by
  simp only[List.length_cons]at a;have b:IsC (w.setCell (aD g o) v) g (cs.set o v).toArray t:=by
   have:=h.set o v
   rwa [List.setIfInBounds_toArray]at this
  have:=IsC.a8 vs (o+1) b (by simp;omega)
  rw[aKN _ _ _ _ (by omega)]at this;exact this
theorem jP:∀(vs:List Value) (w:World) (o:Nat) {k:Nat},k≠g->(w.setCells g o vs).heap[k]?=w.heap[k]?
 | [],_,_,_,_=>rfl
 | v :: vs,w,o,k,h=>by
  show((w.setCell (aD g o) v).setCells g (o+1) vs).heap[k]?=_
  rw[jP vs _ _ h,aU _ _ h]
theorem cR:∀(vs:List Value) (w:World) (o:Nat),(w.setCells g o vs).heap.size=w.heap.size
 | [],_,_=>rfl
 | v :: vs,w,o=>by
  show((w.setCell (aD g o) v).setCells g (o+1) vs).heap.size=_
  rw[cR vs];simp
structure Frm(S:Nat->Prop)(w w':World):Prop where
 os:w'.os=w.os
 tape:w'.tape=w.tape
 output:w'.output=w.output
 size:w.heap.size<=w'.heap.size
 block:∀k,k<w.heap.size->¬S k->w'.heap[k]?=w.heap[k]?
theorem Frm.refl(S:Nat->Prop)(w:World):Frm S w w:=⟨rfl,rfl,rfl,nR _,fun _ _ _=>rfl⟩
theorem Frm.trans{a b c:World}(h:Frm S a b)(k:Frm S b c):Frm S a c:=
 ⟨k.os.trans h.os,k.tape.trans h.tape,k.output.trans h.output,lT h.size k.size,fun i d e=>(k.block i (lL d h.size) e).trans (h.block i d e)⟩
theorem Frm.wide{S':Nat->Prop}(h:Frm S w w')(c:∀k,k<w.heap.size->S k->S' k):Frm S' w w':=⟨h.os,h.tape,h.output,h.size,fun k a b=>h.block k a fun q=>b (c k a q)⟩
theorem Frm.aa(h:Bl w w'):Frm S w w':=⟨h.os,h.tape,h.output,h.size,fun k a _=>h.block k a⟩
theorem Frm.below{B:Nat}(h:Frm S w w')(b:B<=w.heap.size)(a:∀k,S k->B<=k):Below B w w':=⟨h.os,h.tape,h.output,h.size,fun k c=>h.block k (by omega) fun q=>by have:=a k q;omega⟩
theorem gJ:∀(vs:List Value) (w:World) (o:Nat),(w.setCells g o vs).os=w.os/\(w.setCells g o vs).tape=w.tape/\(w.setCells g o vs).output=w.output
 | [],_,_=>⟨rfl,rfl,rfl⟩
 | v :: vs,w,o=>gJ vs (w.setCell (aD g o) v) (o+1)
theorem Frm.a8(w:World)(a:S g)(o:Nat)(vs:List Value):Frm S w (w.setCells g o vs):=
 ⟨(gJ vs w o).1,(gJ vs w o).2.1,(gJ vs w o).2.2,by rw[cR];exact nR _,fun k _ b=>jP vs w o fun e=>b (e▸a)⟩
theorem Frm.set(w:World)(b:S p.block)(u:Value):Frm S w (w.setCell p u):=
 ⟨rfl,rfl,rfl,by simp,fun k _ a=>aU w u fun e=>a (e▸b)⟩
theorem Frm.alloc(S:Nat->Prop)(w:World)(o:Obj):Frm S w (w.alloc o):=Frm.aa ((bQ w.heap.size w).alloc (nR _) o)
theorem Frm.drew(S:Nat->Prop)(w:World):Frm S w w.drew:=⟨rfl,rfl,rfl,nR _,fun _ _ _=>rfl⟩
theorem IsC.ae(h:IsC w g cs t)(k:Frm S w w')(hn:¬S g):IsC w' g cs t:=h.of (k.block g h.lt hn)
theorem aOD:(Tryz.prog.info? 130).map (fun i=>(i.zero,i.size,i.bytes))=some (some (.agg #[.string .empty,.string .empty,iV 0]),3,40):=by kernel_rfl
theorem qA:∃i,Tryz.prog.info? 130=some i/\i.size=3/\i.bytes=40/\i.zero=some (.agg #[.string .empty,.string .empty,iV 0]):=by
 have h:=aOD;cases e:Tryz.prog.info? 130 with
 | none=>rw[e]at h;cases h
 | some i=>
  rw[e]at h;simp only[Option.map_some,sJ,Prod.mk.injEq]at h;exact⟨i,rfl,h.2.1,h.2.2,h.1⟩
theorem mC(w:World)(p:TypeId)(b o c e:Nat)(a:Addr)(d f:Nat)(cs:List Value)(hn:cs.length=Nat.min d c*3)
  (g:∀j v,cs[j]?=some v->w.cell? (a.add j)=some v) (hc:∀j,j<cs.length->(w.cell? (aD b (o+j))).isSome=true) (k:∀j,j<cs.length->w.frozen? (aD b (o+j))=false) (h1:∀v∈cs,v.oneCell'=true):
  (Builtin.copy_ #[94,94] p #[sL b o c e,.slice (some a) d f]).run Tryz.prog w=.ok (goInt (Nat.min d c)) (w.setCells b o cs):=by
 have m:=run_loadCells_list (P:=Tryz.prog) w a cs g;have n:=run_storeCells_cells (P:=Tryz.prog) b o cs 0 w (by simpa using hc) (by simpa using k) h1;obtain⟨i,l,h,_,_⟩:=qA;simp[Builtin.copy_,run_underlying Tryz.underlying94,Builtin.lenOf,Builtin.firstCells,sizeOf,typeInfo,l,h,<-hn,m,n]
theorem eM(es:List E3):∀v∈es.flatMap aK,v.oneCell'=true:=fun v b=>by
 obtain⟨e,_,a⟩:=List.mem_flatMap.1 b;simp only[aK,List.mem_cons,List.not_mem_nil,or_false]at a;rcases a with rfl | rfl | rfl<;>rfl
theorem gR(xs ys:List E3)(i:Nat):spl (xs.flatMap aK) (i*3) (ys.flatMap aK)=(spl xs i ys).flatMap aK:=by
 have c:∀(l:List E3) (n:Nat),(l.flatMap aK).take (n*3)=(l.take n).flatMap aK:=by
  intro l;induction l with
  | nil=>intro n;simp
  | cons e l ih=>
   intro n;cases n with
   | zero=>simp
   | succ n=>
    have a:(aK e).length=3:=rfl;rw[List.flatMap_cons,List.take_succ_cons,List.flatMap_cons,List.take_append,a,List.take_of_length_le (by rw[a];omega),show(n+1)*3-3=n*3 by omega,ih]
 have b:∀(l:List E3) (n:Nat),(l.flatMap aK).drop (n*3)=(l.drop n).flatMap aK:=by
  intro l;induction l with
  | nil=>intro n;simp
  | cons e l ih=>
   intro n;cases n with
   | zero=>simp
   | succ n=>
    have a:(aK e).length=3:=rfl;rw[List.flatMap_cons,List.drop_succ_cons,List.drop_append,a,List.drop_of_length_le (by rw[a];omega),show(n+1)*3-3=n*3 by omega,ih,List.nil_append]
 unfold spl;rw[c,aH,<-Nat.add_mul,b,List.flatMap_append,List.flatMap_append]
def Esl(w:World)(v:Value)(es:List E3):Prop:=
 (v=.slice none 0 0/\es=[])\/∃g o cap xs,v=sL g (o*3) es.length cap/\IsC w g (cC xs) 130/\o+es.length<=xs.length/\(xs.drop o).take es.length=es
theorem Esl.cells{o:Nat}{xs es:List E3}(h:IsC w g (cC xs) 130)(f:o+es.length<=xs.length)(he:(xs.drop o).take es.length=es):∀j v,(es.flatMap aK)[j]?=some v->w.cell? ((⟨g,o*3,none⟩:Addr).add j)=some v:=fun j v a=>by
 have d:(⟨g,o*3,none⟩:Addr).add j=⟨g,o*3+j,none⟩:=by unfold Addr.add;split<;>simp_all
 rw[d,h.cell];have b:spl (xs.flatMap aK) (o*3) (es.flatMap aK)=xs.flatMap aK:=by
  rw[gR];congr 1;unfold spl;rw[<-he,List.length_take,List.length_drop,List.append_assoc];rw[show min es.length (xs.length-o)=es.length by omega];rw[<-List.drop_drop,List.take_append_drop,List.take_append_drop]
 have e:j <(es.flatMap aK).length:=(List.getElem?_eq_some_iff.1 a).1;have:(cC xs)[o*3+j]?=(xs.flatMap aK)[o*3+j]?:=by simp[cC]
 rw[this,<-b];unfold spl;have c:((xs.flatMap aK).take (o*3)).length=o*3:=by
  rw[List.length_take,aH];omega
 rw[List.append_assoc,List.getElem?_append_right (by omega),c,show o*3+j-o*3=j by omega,List.getElem?_append_left e];exact a
theorem aER(m:Nat):Builtin.zeroCells #[.string .empty,.string .empty,iV 0] m=((List.replicate m e0).flatMap aK).toArray:=by
 apply Array.toList_inj.1
 simp only[Builtin.zeroCells,List.size_toArray,List.length_cons,List.length_nil,Array.toList_map,Array.toList_range];induction m with
 | zero=>rfl
 | succ m ih=>
  have b:List.range ((m+1)*3)=List.range (m*3)++[m*3,m*3+1,m*3+2]:=by
   rw[show(m+1)*3=m*3+1+1+1 by omega,List.range_succ,List.range_succ,List.range_succ];simp
  have a:List.replicate (m+1) e0=List.replicate m e0++[e0]:=List.replicate_succ';rw[a,List.flatMap_append,<-ih];simp only[Nat.zero_add,Nat.reduceAdd];rw[b,List.map_append];congr 1;simp only[List.map_cons,List.map_nil,show m*3 % 3=0 by omega,show(m*3+1) % 3=1 by omega,show(m*3+2) % 3=2 by omega];rfl
theorem cL{rest:List Oper}(i:o.guard=none)(s x:Operand)(t b:TypeId)
  (f:o.op=.call {callee:=.builtin .append,args:=#[s,x],argTypes:=#[t,b]}) (vs d:Value) (g:a.eval s=vs) (hx:a.eval x=d)
  (c:Value) (w':World) (hr:(Builtin.append_ #[t,b] o.type #[vs,d]).run P w=.ok c w') (h:wpList P ops Q rest (a.put o.dst c) w'):wpList P ops Q (o :: rest) a w:=by
 refine wpList_plain i fun K e=>?_;unfold Oper.wp execOp;simp only[f,resolve,invoke,builtin,Sem.run_bind,Sem.run_pure,Result.andThen_ok,List.map_toArray,List.map_cons,List.map_nil,g,hx,hr];exact e _ _ h
structure aPM(w w':World)(v:Value)(es:List E3):Prop where
 ex:∃a junk,v=.slice (adr a) es.length (es.length+junk.length)/\(∀g,a=some g->w.heap.size<=g/\IsC w' g (cC (es++junk)) 130)/\(a=none->es=[]/\junk=[])/\es.length+junk.length<=maxLen
 below:Bl w w'
theorem pG(v:Value)(es:List E3)(w:World)(x:Esl w v es)(C:es.length<=10):
  Calls Tryz.prog 135 #[v] w fun e w'=>∃v',e=.returned v'/\aPM w w' v' es:=by
 obtain⟨i,l,s,p,z⟩:=qA;rcases x with⟨rfl,rfl⟩ | ⟨g,o,a,xs,rfl,y,u,t⟩
 ·have n:=fun w=>Lib.run_eql_slice_nil (P:=Tryz.prog) w 94 130 none 0 0 0 0 Tryz.underlying94
  go_enter Tryz.func135,Tryz.ntmps135
  go_wp2
  go_ret
  exact⟨_,rfl,⟨none,[],by simp[adr],fun g q=>(by cases q),fun _=>⟨rfl,rfl⟩,by simp⟩,bQ _ _⟩
 ·have n:=fun w=>Lib.run_eql_slice_nil (P:=Tryz.prog) w 94 130 (some ⟨g,o*3,none⟩) es.length a 0 0 Tryz.underlying94
  have m:IsC (w.alloc (.cells #[] 130)) g (cC xs) 130:=y.alloc _;have f:=Src.ofSlice (P:=Tryz.prog) (w.alloc (.cells #[] 130)) (size:=i.size) (tx:=94) Tryz.underlying94 ⟨g,o*3,none⟩ es.length a (es.flatMap aK) (by rw[aH,s]) (Esl.cells m u t) (eM es);have k:=(bQ w.heap.size w).alloc (nR _) (.cells #[] 130);by_cases r:es.length=0
  ·have e0:es=[]:=List.length_eq_zero_iff.1 r
   subst e0;have B:=fun w=>Lib.run_eql_slice_nil (P:=Tryz.prog) w 94 130 (some ⟨g,o*3,none⟩) 0 a 0 0 Tryz.underlying94;have c:=fun d=>run_append_room_src (P:=Tryz.prog) (w.alloc (.cells #[] 130)) 94 94 d 130 i Tryz.underlying94 l w.heap.size 0 0 0 _ 0 [] f (by omega) (fun j b=>by simp at b) (fun j b=>by simp at b);go_enter Tryz.func135,Tryz.ntmps135;go_wp2_with (at_builtin;refine cL rfl _ _ _ _ rfl (sL w.heap.size 0 0 0) (sL g (o*3) 0 a) rfl rfl _ _ (c _) ?_);go_ret;exact⟨_,rfl,⟨some w.heap.size,[],by simp[adr],fun g q=>(by cases q;exact⟨nR _,IsC.new _ _ _⟩),fun q=>(by cases q),by simp⟩,k⟩
  ·have A:(Builtin.firstCells i.size 0 (sL w.heap.size 0 0 0)).run Tryz.prog (w.alloc (.cells #[] 130)).drew=.ok ([]:List Value).toArray (w.alloc (.cells #[] 130)).drew:=by
    have:=run_firstCells_some (P:=Tryz.prog) (w.alloc (.cells #[] 130)).drew i.size 0 ⟨w.heap.size,0,none⟩ 0 0 [] (by simp) (fun j v b=>by simp at b)
    exact this
   have c:=fun d=>run_append_grow_src (P:=Tryz.prog) (w.alloc (.cells #[] 130)) 94 94 d 130 i _ Tryz.underlying94 l z (some ⟨w.heap.size,0,none⟩) 0 0 [] A _ es.length (es.flatMap aK) f (by omega) (by omega) (by rw[nextslicecap_zero (by omega),p];omega);go_enter Tryz.func135,Tryz.ntmps135;go_wp2_with (at_builtin;refine cL rfl _ _ _ _ rfl (sL w.heap.size 0 0 0) (sL g (o*3) es.length a) rfl rfl _ _ (c _) ?_);go_ret;have E:=grownCap_ge (w.alloc (.cells #[] 130)) es.length 0 130;have D:=grownCap_le_maxLen (w.alloc (.cells #[] 130)) es.length 0 130 (by simp[maxLen];omega);generalize grownCap (w.alloc (.cells #[] 130)) es.length 0 130=h at *;refine⟨_,rfl,⟨some (w.heap.size+1),List.replicate (h-es.length) e0,?_,fun g q=>?_,fun q=>(by cases q),?_⟩,?_⟩
   ·simp[adr];omega
   ·cases q
    refine⟨by omega,?_⟩;have:=IsC.new (w.alloc (.cells #[] 130)) ((es.flatMap aK).toArray++Builtin.zeroCells #[.string .empty,.string .empty,iV 0] (h-es.length)) 130;rw[World.size_alloc]at this;rw[aER]at this |-;simpa [cC] using this.drew
   ·simp;omega
   ·exact(k.alloc (by simp) _).drew
theorem xX{K:Act->World->Prop}{E:Prop}(g:o.guard=none)(s x:Operand)(t b:TypeId)
  (e:o.op=.call {callee:=.builtin .append,args:=#[s,x],argTypes:=#[t,b]}) (vs d:Value) (f:a.eval s=vs) (hx:a.eval x=d)
  (c:Value) (w':World) (hr:(Builtin.append_ #[t,b] o.type #[vs,d]).run P w=.ok c w') (h:K (a.put o.dst c) w'):if Region.wanted o (yielded ops a.tmps)=true then Oper.wp P o a w K Q else E:=by
 rw[if_pos (by simp[Region.wanted,g])];unfold Oper.wp execOp;simp only[e,resolve,invoke,builtin,Sem.run_bind,Sem.run_pure,Result.andThen_ok,List.map_toArray,List.map_cons,List.map_nil,f,hx,hr];exact h
theorem aCL(w:World)(p:TypeId)(b o n a:Nat)(hn:0<n)(hc:∀j,j<n*3->(w.cell? (aD b (o+j))).isSome=true)(h:∀j,j<n*3->w.frozen? (aD b (o+j))=false):
  (Builtin.clear_ #[94] p #[sL b o n a]).run Tryz.prog w=.ok (.tuple #[]) (w.setCells b o ((List.replicate n e0).flatMap aK)):=by
 have d:((List.replicate n e0).flatMap aK).length=n*3:=by rw[aH];simp
 have e:=run_storeCells_cells (P:=Tryz.prog) b o ((List.replicate n e0).flatMap aK) 0 w (by rw[d];simpa using hc) (by rw[d];simpa using h) (eM _);obtain⟨i,k,q,_,l⟩:=qA;have f:(zeroValue 130).run Tryz.prog w=.ok (.agg #[.string .empty,.string .empty,iV 0]) w:=by
  simp[zeroValue,typeInfo,k,l]
 have g:(Value.agg #[.string .empty,.string .empty,iV 0]).cells=#[.string .empty,.string .empty,iV 0]:=by kernel_rfl
 have c:(Builtin.zeroCells (Value.agg #[.string .empty,.string .empty,iV 0]).cells n).toList=(List.replicate n e0).flatMap aK:=by rw[g,aER]
 generalize (Value.agg #[.string .empty,.string .empty,iV 0])=Z at f c;generalize (List.replicate n e0).flatMap aK=L at *;obtain⟨m,rfl⟩:∃m,n=m+1:=⟨n-1,by omega⟩;simp at e;simp[Builtin.clear_,run_underlying Tryz.underlying94,f,c,e]
theorem rV(g:Nat)(es a:List E3)(i j:Nat)(w:World)(hx:IsC w g (cC (es++a)) 130)(i8:i<j)(X:j<=es.length)(U:es.length<=10)(J:es.length+a.length<=maxLen):
  Calls Tryz.prog 127 #[sL g 0 es.length (es.length+a.length),iV i,iV j] w fun e w'=>e=.returned (sL g 0 (es.length -(j-i)) (es.length+a.length))/\IsC w' g (cC (es.take i++es.drop j++(List.replicate (j-i) e0++a))) 130/\Frm (fun k=>k=g) w w':=by
 obtain⟨x,I,p,O,Z⟩:=qA;have ik:es.length+a.length<=9223372036854775807:=by simp[maxLen]at J;omega
 have T:((i:Int) ==(j:Int))=false:=by rw[beq_eq_false_iff_ne];omega
 have R:(i:Int)<=(es.length:Int)+(a.length:Int):=by omega
 obtain⟨l,V,r⟩:∃l:Addr,(if es.length+a.length=j then some (⟨g,0,none⟩:Addr)else some ⟨g,j*3,none⟩)=some l/\(0<es.length-j->l=⟨g,j*3,none⟩):=by
  by_cases e:es.length+a.length=j
  ·exact⟨⟨g,0,none⟩,by rw[if_pos e],fun q=>by omega⟩
  ·exact⟨⟨g,j*3,none⟩,by rw[if_neg e],fun _=>rfl⟩
 have m:(es.drop j).length=es.length-j:=List.length_drop;have t:∀W:World,IsC W g (cC (es++a)) 130->Src Tryz.prog x.size 94 (.slice (some l) (es.length-j) (es.length+a.length-j)) (es.length-j) ((es.drop j).flatMap aK) W:=fun W d=>by
  refine Src.ofSlice W Tryz.underlying94 l _ _ _ (by rw[aH,p,m]) ?_ (eM _);by_cases q:0<es.length-j
  ·rw[r q]
   refine Esl.cells d (by rw[m,lP];omega) ?_;rw[List.drop_append,m,List.take_append,m];rw[List.take_of_length_le (by rw[m];exact nR _)];simp
  ·have e:es.drop j=[]:=List.length_eq_zero_iff.1 (by omega)
   rw[e];intro k v n;simp at n
 have F:(cC (es++a)).size=(es.length+a.length)*3:=by rw[fY,lP]
 have u:∀W:World,IsC W g (cC (es++a)) 130->∀f,(Builtin.append_ #[94,94] f #[sL g 0 i (es.length+a.length),.slice (some l) (es.length-j) (es.length+a.length-j)]).run Tryz.prog W=.ok (sL g 0 (i+(es.length-j)) (es.length+a.length)) (W.setCells g (i*3) ((es.drop j).flatMap aK)):=fun W d f=>by
  have:=run_append_room_src (P:=Tryz.prog) W 94 94 f 130 x Tryz.underlying94 I g 0 i (es.length+a.length) _ _ _ (t W d) (by omega)
   (fun k n=>by rw[aH,m]at n;rw[d.cell,p,Array.getElem?_eq_getElem (by rw[F];omega)];rfl) (fun k n=>d.frozen _)
  rw[p,Nat.zero_add]at this;exact this
 clear t m;obtain⟨b,s⟩:∃b,b=i+(es.length-j):=⟨_,rfl⟩;have K:∀W:World,IsC W g (cC (es++a)) 130->∀f,(Builtin.append_ #[94,94] f #[sL g 0 i (es.length+a.length),.slice (some l) (es.length-j) (es.length+a.length-j)]).run Tryz.prog W=.ok (sL g 0 b (es.length+a.length)) (W.setCells g (i*3) ((es.drop j).flatMap aK)):=fun W d f=>by rw[s];exact u W d f
 clear u;have D:Hid (b=i+(es.length-j)):=s;have q1:¬es.length+a.length=b:=by omega
 have q2:(b:Int)<=(es.length:Int):=by omega
 have q3:(es.length:Int)<=(es.length:Int)+(a.length:Int):=by omega
 have q4:b<es.length:=by omega
 clear s;have B:∀W:World,IsC W g (cC (es++a)) 130->IsC (W.setCells g (i*3) ((es.drop j).flatMap aK)) g (cC (spl (es++a) i (es.drop j))) 130:=fun W d=>by
  have:=IsC.a8 ((es.drop j).flatMap aK) (cs:=(es++a).flatMap aK) (i*3) d (by rw[aH,aH,lP,List.length_drop];omega)
  rw[gR]at this;exact this
 have z:(spl (es++a) i (es.drop j)).length=es.length+a.length:=by
  unfold spl;simp only[lP,List.length_take,List.length_drop];omega
 have E:∀W:World,IsC W g (cC (spl (es++a) i (es.drop j))) 130->∀f c,(Builtin.clear_ #[94] f #[sL g (b*3) (es.length-b) c]).run Tryz.prog W=.ok (.tuple #[]) (W.setCells g (b*3) ((List.replicate (es.length-b) e0).flatMap aK)):=fun W d f c=>
  aCL W f g (b*3) (es.length-b) c (by omega) (fun k n=>by rw[d.cell,Array.getElem?_eq_getElem (by rw[fY,z];omega)];rfl) (fun k n=>d.frozen _)
 go_enter Tryz.func127,Tryz.ntmps127
 go_wp2_with fail
 go_region_law (refine xX (by rfl) _ _ _ _ (by rfl) (sL g 0 i (es.length+a.length)) (.slice (some l) (es.length-j) (es.length+a.length-j)) (by rfl) (by rfl) _ _ (K _ (by first | exact hx | exact hx.drew | exact hx.drew.drew) _) ?_)
 have Q:=E (w.drew.setCells g (i*3) ((es.drop j).flatMap aK)) (B _ hx.drew);go_wp2;go_ret;have e:=D.out;have o:=IsC.a8 ((List.replicate (es.length-b) e0).flatMap aK) (cs:=(spl (es++a) i (es.drop j)).flatMap aK) (b*3) (B _ hx.drew) (by rw[aH,aH,z,List.length_replicate];omega);rw[gR]at o;have C:spl (spl (es++a) i (es.drop j)) b (List.replicate (es.length-b) e0)=es.take i++es.drop j++(List.replicate (j-i) e0++a):=by
  have y:(es.take i++es.drop j).length=b:=by simp only[lP,List.length_take,List.length_drop];omega
  have H:spl (es++a) i (es.drop j)=es.take i++es.drop j++(es++a).drop b:=by
   unfold spl;rw[List.take_append_of_le_length (by omega),List.length_drop,show i+(es.length-j)=b by omega]
  rw[H];unfold spl;have L:(es.take i++es.drop j++(es++a).drop b).take b=es.take i++es.drop j:=by
   have N:∀(A Y:List E3),A.length=b->(A++Y).take b=A:=fun A Y h=>by rw[<-h];exact List.take_left
   exact N _ _ y
  have M:(es.take i++es.drop j++(es++a).drop b).drop (b+(List.replicate (es.length-b) e0).length)=a:=by
   rw[List.length_replicate,<-List.drop_drop];have G:∀(A Y:List E3),A.length=b->(A++Y).drop b=Y:=fun A Y h=>by rw[<-h];exact List.drop_left
   rw[G _ _ y,List.drop_drop,show b+(es.length-b)=es.length by omega];exact List.drop_left
  rw[L,M,show es.length-b=j-i by omega,List.append_assoc]
 rw[C]at o;refine⟨by rw[show es.length -(j-i)=b by omega];simp,o.drew,?_⟩;exact(((Frm.drew (fun k=>k=g) w).trans (Frm.a8 (S:=fun k=>k=g) _ rfl _ _)).trans (Frm.a8 (S:=fun k=>k=g) _ rfl _ _)).trans (Frm.refl _ _)
theorem aKO(es a vs:List E3)(h:vs.length<=a.length):spl (es++a) es.length vs=es++vs++a.drop vs.length:=by
 unfold spl;rw[List.take_left,<-List.drop_drop,List.drop_left]
theorem aEJ(l:List α)(o:Nat)(vs:List α)(h:o+vs.length<=l.length):(spl l o vs).length=l.length:=by
 unfold spl;simp only[lP,List.length_take,List.length_drop];omega
theorem aNI{need old:Nat}(h:need<=20)(a:old<need):Builtin.nextslicecap need old*40<=281474976710656:=by
 have:=growslice_fits (bytes:=40) (need:=need) (old:=old) (by omega) (by omega)
 exact this
theorem yB(a:Option Nat)(es b vs:List E3)(v:Value)(W:World)(m:∀g,a=some g->IsC W g (cC (es++b)) 130)(hn:a=none->es=[]/\b=[])(B:Esl W v vs)(F:es.length+vs.length<=20)(G:es.length+b.length<=maxLen):
  ∃u W' a' junk',(∀ty,(Builtin.append_ #[94,94] ty #[.slice (adr a) es.length (es.length+b.length),v]).run Tryz.prog W=.ok u W')/\u=.slice (adr a') (es.length+vs.length) (es.length+vs.length+junk'.length)/\
   (∀g,a'=some g->IsC W' g (cC (es++vs++junk')) 130/\(a=some g\/W.heap.size<=g))/\(a'=none->es=[]/\vs=[]/\junk'=[])/\es.length+vs.length+junk'.length<=maxLen/\Frm (fun k=>a=some k) W W':=by
 obtain⟨c,l,h,r,D⟩:=qA;have j:Src Tryz.prog c.size 94 v vs.length (vs.flatMap aK) W:=by
  rcases B with⟨rfl,rfl⟩ | ⟨x,o,i,xs,rfl,C,z,y⟩
  ·exact Src.ofNil W Tryz.underlying94 0
  ·exact Src.ofSlice W Tryz.underlying94 ⟨x,o*3,none⟩ vs.length i _ (by rw[aH,h]) (Esl.cells C z y) (eM vs)
 by_cases p:vs.length<=b.length
 ·cases a with
  | none=>
   obtain⟨rfl,rfl⟩:=hn rfl;have s:vs=[]:=List.length_eq_zero_iff.1 (by simpa using p);subst s;refine⟨_,W,none,[],fun ty=>?_,rfl,fun g q=>(by cases q),fun _=>⟨rfl,rfl,rfl⟩,by simp,Frm.refl _ _⟩;have:=run_append_nothing (P:=Tryz.prog) W 94 94 ty 130 c Tryz.underlying94 l none 0 0 (nR _) v j;exact this
  | some g=>
   have d:=m g rfl;refine⟨_,_,some g,b.drop vs.length,fun ty=>run_append_room_src (P:=Tryz.prog) W 94 94 ty 130 c Tryz.underlying94 l g 0 es.length (es.length+b.length) v _ _ j (by omega)
    (fun k n=>by rw[aH]at n;rw[d.cell,h,Array.getElem?_eq_getElem (by rw[fY,lP];omega)];rfl) (fun k n=>d.frozen _),?_,fun g' q=>?_,fun q=>(by cases q),?_,?_⟩
   ·simp[adr];omega
   ·cases q
    refine⟨?_,.inl rfl⟩;have:=IsC.a8 (vs.flatMap aK) (cs:=(es++b).flatMap aK) (es.length*3) d (by rw[aH,aH,lP];omega);rw[gR,aKO _ _ _ p]at this;rw[h,Nat.zero_add];exact this
   ·simp;omega
   ·exact Frm.a8 (S:=fun k=>some g=some k) _ rfl _ _
 ·have E:(Builtin.firstCells c.size es.length (.slice (adr a) es.length (es.length+b.length))).run Tryz.prog W.drew=.ok (es.flatMap aK).toArray W.drew:=by
   cases a with
   | none=>
    obtain⟨rfl,rfl⟩:=hn rfl;exact run_firstCells_none (P:=Tryz.prog) W.drew c.size 0 0 0
   | some g=>
    have d:=m g rfl;exact run_firstCells_some (P:=Tryz.prog) W.drew c.size es.length ⟨g,0,none⟩ es.length _ (es.flatMap aK) (by rw[aH,h]) (by
     have:=Esl.cells (w:=W.drew) (g:=g) (o:=0) (xs:=es++b) (es:=es) d.drew (by rw[lP];omega) (by simp)
     rw[Nat.zero_mul]at this;exact this)
  have A:=fun ty=>run_append_grow_src (P:=Tryz.prog) W 94 94 ty 130 c _ Tryz.underlying94 l D (adr a) es.length (es.length+b.length) (es.flatMap aK) E v vs.length (vs.flatMap aK) j (by omega) (by omega) (by rw[r];exact aNI (by omega) (by omega));have I:=grownCap_ge W (es.length+vs.length) (es.length+b.length) 130;have H:=grownCap_le_maxLen W (es.length+vs.length) (es.length+b.length) 130 (by simp[maxLen];omega);generalize grownCap W (es.length+vs.length) (es.length+b.length) 130=f at *;refine⟨_,_,some W.heap.size,List.replicate (f -(es.length+vs.length)) e0,A,?_,fun g q=>?_,fun q=>(by cases q),?_,?_⟩
  ·simp[adr];omega
  ·cases q
   refine⟨?_,.inr (nR _)⟩;have t:(Value.agg #[.string .empty,.string .empty,iV 0]).cells=#[.string .empty,.string .empty,iV 0]:=by kernel_rfl
   have:=IsC.new W.drew ((es.flatMap aK++vs.flatMap aK).toArray++Builtin.zeroCells (Value.agg #[.string .empty,.string .empty,iV 0]).cells (f -(es.length+vs.length))) 130
   have e:cC (es++vs++List.replicate (f -(es.length+vs.length)) e0)=(es.flatMap aK++vs.flatMap aK).toArray++Builtin.zeroCells (Value.agg #[.string .empty,.string .empty,iV 0]).cells (f -(es.length+vs.length)):=by
    rw[t,aER];simp[cC]
   rw[e];exact this
  ·simp;omega
  ·exact(Frm.drew _ W).trans (Frm.alloc _ _ _)
def aOW(v:Value)(a:Option Nat):Prop:=∀gv o n c,v=sL gv o n c->a≠some gv
structure xZ(w w':World)(a:Option Nat)(u:Value)(ls:List E3):Prop where
 ex:∃a' junk',u=.slice (adr a') ls.length (ls.length+junk'.length)/\(∀g,a'=some g->IsC w' g (cC (ls++junk')) 130/\(a=some g\/w.heap.size<=g))/\a'≠none/\ls.length+junk'.length<=maxLen
 ae:Frm (fun k=>a=some k) w w'
theorem aBW(a:Option Nat)(es d vs:List E3)(v:Value)(w:World)(o:∀g,a=some g->IsC w g (cC (es++d)) 130)(hn:a=none->es=[]/\d=[])(s:Esl w v vs)(x:∃b c,v=.slice b vs.length c)(j:0<vs.length)(z:es.length+vs.length<=10)(p:es.length+d.length<=maxLen):
  Calls Tryz.prog 102 #[.slice (adr a) es.length (es.length+d.length),iV es.length,v] w fun e w'=>∃u,e=.returned u/\xZ w w' a u (es++vs):=by
 obtain⟨u,i,h,f,r,rfl,k,l,m,n⟩:=yB a es d vs v w o hn s (by omega) p;have y:=r 94;obtain⟨b,c,rfl⟩:=x;have B:es.length+d.length<=9223372036854775807:=by simp[maxLen]at p;omega
 have A:((vs.length:Int) == 0)=false:=by rw[beq_eq_false_iff_ne];omega
 have fin:∃u,Ending.returned (Value.slice (adr h) (es.length+vs.length) (es.length+vs.length+f.length))=.returned u/\xZ w i a u (es++vs):=
  ⟨_,rfl,⟨h,f,by rw[lP],k,fun e=>by obtain⟨_,q,_⟩:=l e;rw[q]at j;simp at j,by rw[lP];exact m⟩,n⟩
 have t:Hid (∃u,Ending.returned (Value.slice (adr h) (es.length+vs.length) (es.length+vs.length+f.length))=.returned u/\xZ w i a u (es++vs)):=fin;clear k l m n fin s o r hn;go_enter Tryz.func102,Tryz.ntmps102;go_wp2_with (at_builtin;refine cL rfl _ _ _ _ rfl (.slice (adr a) es.length (es.length+d.length)) (.slice b vs.length c) rfl rfl _ _ y ?_)
 all_goals (go_ret;exact t.out)
theorem oV(W:World)(A:TypeId)(g:Nat)(es:List E3)(a k:Nat)(x:∀j v,(es.flatMap aK)[j]?=some v->W.cell? ((⟨g,0,none⟩:Addr).add j)=some v)(D:0<k)(hc:a<es.length+k)(C:es.length+k<=20):
  ∃gc,es.length+k<=gc/\gc<=maxLen/\(Builtin.append_ #[94,3] A #[sL g 0 es.length a,iV k]).run Tryz.prog W =
   .ok (sL W.heap.size 0 (es.length+k) gc) (W.drew.alloc (.cells (cC (es++List.replicate (gc-es.length) e0)) 130)):=by
 obtain⟨f,u,b,l,d⟩:=qA;have B:=grownCap_ge W (es.length+k) a 130;have z:=grownCap_le_maxLen W (es.length+k) a 130 (by simp[maxLen];omega);refine⟨grownCap W (es.length+k) a 130,B,z,?_⟩;have i:(Builtin.firstCells f.size es.length (sL g 0 es.length a)).run Tryz.prog W.drew=.ok (es.flatMap aK).toArray W.drew:=
  run_firstCells_some (P:=Tryz.prog) W.drew f.size es.length ⟨g,0,none⟩ es.length _ (es.flatMap aK) (by rw[aH,b]) (by simpa using x)
 have y:IntKind.i64.wrap (k:Int)=k:=by rw[IntKind.wrap_i64];omega
 have o:¬((k:Int)<0):=by omega
 have r:¬(281474976710656 <(k:Int)*(40:Int)):=by omega
 have w:¬(es.length+k<=a):=by omega
 have s:¬(9223372036854775807 <((es.length:Int)+(k:Int))):=by omega
 have q:¬(281474976710656<Builtin.nextslicecap (es.length+k) a*40):=by have:=aNI (need:=es.length+k) (old:=a) (by omega) (by omega);omega
 have t:(Value.agg #[.string .empty,.string .empty,iV 0]).cells=#[.string .empty,.string .empty,iV 0]:=by kernel_rfl
 have c:∀m,Builtin.zeroCells (Value.agg #[.string .empty,.string .empty,iV 0]).cells m=((List.replicate m e0).flatMap aK).toArray:=fun m=>by rw[t,aER]
 generalize (Value.agg #[.string .empty,.string .empty,iV 0])=Z at d c;have n:¬(k*3=0):=by omega
 have p:Tryz.prog.underlying 3=some (.int .i64):=Tryz.underlying3;have h:((es.flatMap aK).toArray++((List.replicate k e0).flatMap aK).toArray++((List.replicate (grownCap W (es.length+k) a 130 -(es.length+k)) e0).flatMap aK).toArray)=cC (es++List.replicate (grownCap W (es.length+k) a 130-es.length) e0):=by
  have e:List.replicate (grownCap W (es.length+k) a 130-es.length) e0=List.replicate k e0++List.replicate (grownCap W (es.length+k) a 130 -(es.length+k)) e0:=by
   rw[List.replicate_append_replicate];congr 1;omega
  apply Array.toList_inj.1
  simp only[cC,e,Array.toList_append,List.flatMap_append,List.append_assoc]
 rw[b]at i;generalize cC (es++List.replicate (grownCap W (es.length+k) a 130-es.length) e0)=R at h |-;simp[Builtin.append_,run_underlying Tryz.underlying94,run_underlying p,sizeOf,typeInfo,zeroValue,asInt,asIntOf,u,b,l,d,y,o,r,w,s,q,Question.forced,i,c,newRow,grownCap,n];rw[<-h];simp[grownCap]
theorem zL(g:Nat)(es a vs:List E3)(b:Option Addr)(c i:Nat)(w:World)(hx:IsC w g (cC (es++a)) 130)(E:Esl w (.slice b vs.length c) vs)(hi:i<es.length)(V:0<vs.length)(Bc:es.length+vs.length<=10)(kq:a.length<vs.length):
  Calls Tryz.prog 102 #[sL g 0 es.length (es.length+a.length),iV i,.slice b vs.length c] w fun e w'=>∃u,e=.returned u/\xZ w w' (some g) u (es.take i++vs++es.drop i):=by
 rcases E with⟨E,q8⟩ | ⟨J,o,cap,xs,E,Du,FL,N3⟩
 ·rw[q8]at V;simp at V
 simp only[Value.slice.injEq,true_and]at E;obtain⟨rfl,rfl⟩:=E;have m:(es.take i).length=i:=by rw[List.length_take];omega
 obtain⟨k,t⟩:∃k,k=es.length+vs.length-i:=⟨_,rfl⟩;have Ot:∀j v,((es.take i).flatMap aK)[j]?=some v->w.cell? ((⟨g,0,none⟩:Addr).add j)=some v:=by
  have:=Esl.cells (w:=w) (g:=g) (o:=0) (xs:=es++a) (es:=es.take i) hx (by rw[m,lP];omega) (by rw[m];simp[List.take_append_of_le_length (show i<=es.length by omega)])
  rw[Nat.zero_mul]at this;exact this
 obtain⟨d,lw,yf,td⟩:∃d,es.length+vs.length<=d/\d<=maxLen/\∀l,(Builtin.append_ #[94,3] l #[sL g 0 i (es.length+a.length),iV k]).run Tryz.prog w =
   .ok (sL w.heap.size 0 (es.length+vs.length) d) (w.drew.alloc (.cells (cC (es.take i++List.replicate (d-i) e0)) 130)):=by
  obtain⟨d,N,q2,O⟩:=oV w 3 g (es.take i) (es.length+a.length) k Ot (by omega) (by rw[m];omega) (by rw[m];omega);rw[m]at N O;have ZF:i+k=es.length+vs.length:=by omega
  rw[ZF]at N O;exact⟨d,N,q2,fun l=>O⟩
 have HK:Hid (k=es.length+vs.length-i):=t;have ik:d<=9223372036854775807:=by simp[maxLen]at yf;omega
 obtain⟨f,x⟩:∃f,f=w.drew.alloc (.cells (cC (es.take i++List.replicate (d-i) e0)) 130):=⟨_,rfl⟩;rw[<-x]at td;have K:IsC f w.heap.size (cC (es.take i++List.replicate (d-i) e0)) 130:=by rw[x];exact IsC.new _ _ _
 have B:Frm (fun k=>some g=some k) w f:=by rw[x];exact(Frm.drew _ w).trans (Frm.alloc _ _ _)
 have AG:IsC f g (cC (es++a)) 130:=by rw[x];exact hx.drew.alloc _
 have T0:IsC f J (cC xs) 130:=by rw[x];exact Du.drew.alloc _
 have Bm:=hx.lt;have hHW:Hid (f=w.drew.alloc (.cells (cC (es.take i++List.replicate (d-i) e0)) 130)):=x;clear x;have H:(es.take i++List.replicate (d-i) e0).length=d:=by simp[m];omega
 have E6:∀l,(Builtin.copy_ #[94,94] l #[sL w.heap.size (i*3) k (d-i),sL J (o*3) vs.length c]).run Tryz.prog f=.ok (goInt vs.length) (f.setCells w.heap.size (i*3) (vs.flatMap aK)):=fun l=>by
  have F:Nat.min vs.length k=vs.length:=Nat.min_eq_left (by omega);have:=mC f l w.heap.size (i*3) k (d-i) ⟨J,o*3,none⟩ vs.length c (vs.flatMap aK) (by rw[aH,F]) (Esl.cells T0 FL N3) (fun j D=>by rw[aH]at D;rw[K.cell,Array.getElem?_eq_getElem (by rw[fY,H];omega)];rfl) (fun j D=>K.frozen _) (eM vs);rw[F]at this;exact this
 obtain⟨s,G⟩:∃s,s=f.setCells w.heap.size (i*3) (vs.flatMap aK):=⟨_,rfl⟩;rw[<-G]at E6;have uf:IsC s w.heap.size (cC (spl (es.take i++List.replicate (d-i) e0) i vs)) 130:=by
  have:=IsC.a8 (vs.flatMap aK) (cs:=(es.take i++List.replicate (d-i) e0).flatMap aK) (i*3) K (by rw[aH,aH,H];omega)
  rw[gR]at this;rw[G];exact this
 have z:Frm (fun k=>k=w.heap.size) f s:=by rw[G];exact Frm.a8 (S:=fun k=>k=w.heap.size) _ rfl _ _
 have q9:IsC s g (cC (es++a)) 130:=AG.ae z (by omega);clear G;have r:(es.drop i).length=es.length-i:=List.length_drop;have P:(spl (es.take i++List.replicate (d-i) e0) i vs).length=d:=by rw[aEJ _ _ _ (by rw[H];omega)];exact H
 obtain⟨p,X⟩:∃p,p=i+vs.length:=⟨_,rfl⟩;have R:∀W l,IsC W g (cC (es++a)) 130->IsC W w.heap.size (cC (spl (es.take i++List.replicate (d-i) e0) i vs)) 130->(Builtin.copy_ #[94,94] l #[sL w.heap.size (p*3) (es.length+vs.length-p) (d-p),sL g (i*3) (es.length-i) (es.length+a.length-i)]).run Tryz.prog W=.ok (goInt ((es.length-i:Nat):Int)) (W.setCells w.heap.size (p*3) ((es.drop i).flatMap aK)):=fun W l hW Q=>by
  have F:Nat.min (es.length-i) (es.length+vs.length-p)=es.length-i:=Nat.min_eq_left (by omega);have:=mC W l w.heap.size (p*3) (es.length+vs.length-p) (d-p) ⟨g,i*3,none⟩ (es.length-i) (es.length+a.length-i) ((es.drop i).flatMap aK) (by rw[aH,F,r])
   (Esl.cells (es:=es.drop i) hW (by rw[r,lP];omega) (by rw[r,List.drop_append_of_le_length (by omega),List.take_append_of_le_length (by rw[r];exact nR _),List.take_of_length_le (by rw[r];exact nR _)]))
   (fun j D=>by rw[aH,r]at D;rw[Q.cell,Array.getElem?_eq_getElem (by rw[fY,P];omega)];rfl) (fun j D=>Q.frozen _) (eM _)
  rw[F]at this;exact this
 have Gv:=fun l=>R s.drew l q9.drew uf.drew;clear R;have Zi:(i:Int)+(vs.length:Int)=(p:Int):=by omega
 have WN:IntKind.i64.wrap (p:Int)=(p:Int):=by rw[IntKind.wrap_i64];omega
 have n3:¬d=p:=by omega
 have S1:i<=es.length:=by omega
 have n4:(p:Int)<=(es.length:Int)+(vs.length:Int):=by omega
 have n5:p<d:=by omega
 have T:p+(es.length-i)=es.length+vs.length:=by omega
 have HP:Hid (p=i+vs.length):=X;have XP:Hid (p+(es.length-i)=es.length+vs.length):=T;clear X T;have hz:((vs.length:Int) == 0)=false:=by rw[beq_eq_false_iff_ne];omega
 have au:((i:Int) ==(es.length:Int))=false:=by rw[beq_eq_false_iff_ne];omega
 have hgt:decide ((es.length:Int)+(a.length:Int) <(es.length:Int)+(vs.length:Int))=true:=by rw[decide_eq_true_eq];omega
 have jl:(es.length:Int)+(vs.length:Int) -(i:Int)=(k:Int):=by omega
 have ao:(i:Int)<=(es.length:Int)+(a.length:Int):=by omega
 have mz:es.length+vs.length-i=k:=HK.out.symm;have n1:¬es.length+a.length=i:=by omega
 have n2:¬d=i:=by omega
 have PQ:Hid (es.length+vs.length-i=k):=mz;clear t;go_enter Tryz.func102,Tryz.ntmps102;go_wp2_with (at_builtin;refine cL rfl _ _ _ _ rfl (sL g 0 i (es.length+a.length)) (iV k) rfl rfl _ _ (td _) ?_);go_region_law (fail);go_wp2;go_ret;have e1:=HP.out;have e6:=XP.out;have I:=IsC.a8 ((es.drop i).flatMap aK) (cs:=(spl (es.take i++List.replicate (d-i) e0) i vs).flatMap aK) (p*3) uf.drew (by rw[aH,aH,P,r];omega);rw[gR]at I;have BK:spl (spl (es.take i++List.replicate (d-i) e0) i vs) p (es.drop i)=es.take i++vs++es.drop i++List.replicate (d -(es.length+vs.length)) e0:=by
  have tl:∀(A Y:List E3) (n:Nat),A.length=n->(A++Y).take n=A:=fun A Y n h=>by rw[<-h];exact List.take_left
  have U:∀(A Y:List E3) (n:Nat),A.length=n->(A++Y).drop n=Y:=fun A Y n h=>by rw[<-h];exact List.drop_left
  have hA:spl (es.take i++List.replicate (d-i) e0) i vs=es.take i++vs++List.replicate (d-p) e0:=by
   unfold spl;rw[tl _ _ _ m,<-List.drop_drop,U _ _ _ m,List.drop_replicate];congr 2;omega
  have Z:(es.take i++vs).length=p:=by rw[lP,m];omega
  rw[hA];unfold spl;rw[tl _ _ _ Z,<-List.drop_drop,U _ _ _ Z,List.drop_replicate,r];congr 2;omega
 rw[BK]at I;refine⟨_,rfl,⟨some w.heap.size,List.replicate (d -(es.length+vs.length)) e0,?_,fun g' q=>?_,by simp,?_⟩,?_⟩
 ·have L:(es.take i++vs++es.drop i).length=es.length+vs.length:=by simp only[lP,m,r];omega
  rw[L];simp[adr];omega
 ·cases q;exact⟨I,.inr (nR _)⟩
 ·have L:(es.take i++vs++es.drop i).length=es.length+vs.length:=by simp only[lP,m,r];omega
  rw[L];simp;omega
 ·have y:Frm (fun k=>some g=some k) w s.drew:=⟨z.os.trans B.os,z.tape.trans B.tape,z.output.trans B.output,lT B.size z.size,fun k t M=>(z.block k (lL t B.size) (by omega)).trans (B.block k t M)⟩
  have C:Frm (fun k=>k=w.heap.size) s.drew (s.drew.setCells w.heap.size (p*3) ((es.drop i).flatMap aK)):=Frm.a8 (S:=fun k=>k=w.heap.size) _ rfl _ _;exact⟨C.os.trans y.os,C.tape.trans y.tape,C.output.trans y.output,lT y.size C.size,fun k t M=>(C.block k (lL t y.size) (by omega)).trans (y.block k t M)⟩
theorem aAA(w:World){gv:Nat}{cs':Array Value}{t':TypeId}(hx:IsC w g cs t)(b:IsC w gv cs' t')(d:gv≠g)(o f n a c e:Nat)(hn:0<n)(u:0<a):
  (Extern.SlicesOverlaps.overlaps #[94,94] #[4] #[sL gv o n c,sL g f a e]).run Tryz.prog w=.ok (.bool false) w:=by
 obtain⟨v,m,l,_,_⟩:=qA;have i:∀k,w.frozen? (aD g k)=false:=fun k=>hx.frozen k;have j:∀k,w.frozen? (aD gv k)=false:=fun k=>b.frozen k;have p:w.shape? g=some (t,cs.size):=by unfold IsC at hx;simp[World.shape?,hx]
 have q:w.shape? gv=some (t',cs'.size):=by unfold IsC at b;simp[World.shape?,b]
 have h:(gv == g)=false:=by simp[d]
 have r:¬n=0:=by omega
 have s:¬a=0:=by omega
 rw[show Extern.SlicesOverlaps.overlaps #[94,94] #[4] #[sL gv o n c,sL g f a e]=(underlying 94 >>= _)from rfl];simp[run_underlying Tryz.underlying94,sizeOf,typeInfo,m,l,d,i,j,p,q,noView,viewAt,mayBeOne,stringish,r,s,h]
theorem zM(g:Nat)(es a vs:List E3)(l o c i:Nat)(xs:List E3)(w:World)(hx:IsC w g (cC (es++a)) 130)(B:IsC w l (cC xs) 130)(L:o+vs.length<=xs.length)(N:(xs.drop o).take vs.length=vs)(D:l≠g)(hi:i<es.length)(P:0<vs.length)(V:es.length+vs.length<=10)(kq:vs.length<=a.length)(T:es.length+a.length<=maxLen):
  Calls Tryz.prog 102 #[sL g 0 es.length (es.length+a.length),iV i,sL l (o*3) vs.length c] w fun e w'=>∃u,e=.returned u/\xZ w w' (some g) u (es.take i++vs++es.drop i):=by
 have ik:es.length+a.length<=9223372036854775807:=by simp[maxLen]at T;omega
 have b:(es.drop i).length=es.length-i:=List.length_drop;obtain⟨p,I⟩:∃p,p=i+vs.length:=⟨_,rfl⟩;have hz:((vs.length:Int) == 0)=false:=by rw[beq_eq_false_iff_ne];omega
 have au:((i:Int) ==(es.length:Int))=false:=by rw[beq_eq_false_iff_ne];omega
 have hgt:decide ((es.length:Int)+(a.length:Int) <(es.length:Int)+(vs.length:Int))=false:=by rw[decide_eq_false_iff_not];omega
 have ao:(i:Int)<=(es.length:Int)+(a.length:Int):=by omega
 have be:(es.length:Int)+(vs.length:Int)<=(es.length:Int)+(a.length:Int):=by omega
 have n1:¬es.length+a.length=i:=by omega
 have Zi:(i:Int)+(vs.length:Int)=(p:Int):=by omega
 have WN:IntKind.i64.wrap (p:Int)=(p:Int):=by rw[IntKind.wrap_i64];omega
 have n3:¬es.length+a.length=p:=by omega
 have n4:(p:Int)<=(es.length:Int)+(vs.length:Int):=by omega
 have Z:i<=es.length:=by omega
 have M:Hid (p=i+vs.length):=I;have Xj:=@run_callFunc_extern Tryz.prog 122 _ (Extern.SlicesOverlaps.overlaps #[94,94] #[4]) Tryz.func122 (by kernel_rfl) (by kernel_rfl) (by kernel_rfl) (by kernel_rfl);have X:=aAA w hx B D (o*3) (p*3) vs.length (es.length+vs.length-p) c (es.length+a.length-p) P (by omega);have m:(es++a).length=es.length+a.length:=lP;have K:∀f,(Builtin.copy_ #[94,94] f #[sL g (p*3) (es.length+vs.length-p) (es.length+a.length-p),sL g (i*3) (es.length+vs.length-i) (es.length+a.length-i)]).run Tryz.prog w.drew=.ok (goInt ((es.length-i:Nat):Int)) (w.drew.setCells g (p*3) ((es.drop i).flatMap aK)):=fun f=>by
  have s:Nat.min (es.length+vs.length-i) (es.length+vs.length-p)=es.length-i:=(Nat.min_eq_right (by omega)).trans (by omega);have:=mC w.drew f g (p*3) (es.length+vs.length-p) (es.length+a.length-p) ⟨g,i*3,none⟩ (es.length+vs.length-i) (es.length+a.length-i) ((es.drop i).flatMap aK) (by rw[aH,s,b])
   (Esl.cells (es:=es.drop i) hx.drew (by rw[b,m];omega) (by rw[b,List.drop_append_of_le_length (by omega),List.take_append_of_le_length (by rw[b];exact nR _),List.take_of_length_le (by rw[b];exact nR _)]))
   (fun j r=>by rw[aH,b]at r;rw[hx.drew.cell,Array.getElem?_eq_getElem (by rw[fY,m];omega)];rfl) (fun j r=>hx.drew.frozen _) (eM _)
  rw[s]at this;exact this
 obtain⟨d,t⟩:∃d,d=w.drew.setCells g (p*3) ((es.drop i).flatMap aK):=⟨_,rfl⟩;rw[<-t]at K;have z:IsC d g (cC (spl (es++a) p (es.drop i))) 130:=by
  have:=IsC.a8 ((es.drop i).flatMap aK) (cs:=(es++a).flatMap aK) (p*3) hx.drew (by rw[aH,aH,m,b];omega)
  rw[gR]at this;rw[t];exact this
 have E:Frm (fun k=>some g=some k) w d:=by rw[t];exact(Frm.drew _ w).trans (Frm.a8 (S:=fun k=>some g=some k) _ rfl _ _)
 have O:IsC d l (cC xs) 130:=B.ae E (by simpa using Ne.symm D);have C:(spl (es++a) p (es.drop i)).length=es.length+a.length:=by rw[aEJ _ _ _ (by rw[m,b];omega)];exact m
 clear t;have W:∀f,(Builtin.copy_ #[94,94] f #[sL g (i*3) (es.length+vs.length-i) (es.length+a.length-i),sL l (o*3) vs.length c]).run Tryz.prog d=.ok (goInt vs.length) (d.setCells g (i*3) (vs.flatMap aK)):=fun f=>by
  have s:Nat.min vs.length (es.length+vs.length-i)=vs.length:=Nat.min_eq_left (by omega);have:=mC d f g (i*3) (es.length+vs.length-i) (es.length+a.length-i) ⟨l,o*3,none⟩ vs.length c (vs.flatMap aK) (by rw[aH,s]) (Esl.cells O L N)
   (fun j r=>by rw[aH]at r;rw[z.cell,Array.getElem?_eq_getElem (by rw[fY,C];omega)];rfl) (fun j r=>z.frozen _) (eM _)
  rw[s]at this;exact this
 have gi:(i:Int)<=(es.length:Int)+(vs.length:Int):=by omega
 have nk:i<=es.length+vs.length:=by omega
 clear I;go_enter Tryz.func102,Tryz.ntmps102;go_wp2_with fail;go_region_law (fail);go_wp2;go_ret;have e1:=M.out;have y:(es.take i).length=i:=by rw[List.length_take];omega
 have v:=IsC.a8 (vs.flatMap aK) (cs:=(spl (es++a) p (es.drop i)).flatMap aK) (i*3) z (by rw[aH,aH,C];omega);rw[gR]at v;have J:spl (spl (es++a) p (es.drop i)) i vs=es.take i++vs++es.drop i++a.drop vs.length:=by
  have U:∀(A Y:List E3) (n:Nat),A.length=n->(A++Y).take n=A:=fun A Y n h=>by rw[<-h];exact List.take_left
  have x:∀(A Y:List E3) (n:Nat),A.length=n->(A++Y).drop n=Y:=fun A Y n h=>by rw[<-h];exact List.drop_left
  have F:(es++a).take p=es.take i++(((es++a).take p).drop i):=by
   have:((es++a).take p).take i=es.take i:=by rw[List.take_take,show min i p=i by omega,List.take_append_of_le_length (by omega)]
   rw[<-this,List.take_append_drop]
  have G:(((es++a).take p).drop i).length=vs.length:=by rw[List.length_drop,List.length_take,m];omega
  have Q:(es++a).drop (p+(es.drop i).length)=a.drop vs.length:=by
   rw[b,show p+(es.length-i)=es.length+vs.length by omega,<-List.drop_drop];congr 1;exact x _ _ _ rfl
  generalize ((es++a).take p).drop i=Y at F G;have R:spl (es++a) p (es.drop i)=es.take i++(Y++(es.drop i++a.drop vs.length)):=by
   unfold spl;rw[Q,F];simp
  rw[R];unfold spl;rw[U _ _ _ y,<-List.drop_drop,x _ _ _ y,x _ _ _ G];simp
 rw[J]at v;have H:(es.take i++vs++es.drop i).length=es.length+vs.length:=by simp only[lP,y,b];omega
 refine⟨_,rfl,⟨some g,a.drop vs.length,?_,fun g' q=>?_,by simp,?_⟩,?_⟩
 ·rw[H];simp[adr];omega
 ·cases q;exact⟨v,.inl rfl⟩
 ·rw[H];simp;omega
 ·exact E.trans (Frm.a8 (S:=fun k=>some g=some k) _ rfl _ _)
theorem jX(a:Option Nat)(es d vs:List E3)(b:Option Addr)(c i:Nat)(w:World)(k:∀g,a=some g->IsC w g (cC (es++d)) 130)(hn:a=none->es=[]/\d=[])(f:Esl w (.slice b vs.length c) vs)(y:aOW (.slice b vs.length c) a)(v:i<=es.length)(h:0<vs.length)(j:es.length+vs.length<=10)(n:es.length+d.length<=maxLen):
  Calls Tryz.prog 102 #[.slice (adr a) es.length (es.length+d.length),iV i,.slice b vs.length c] w fun e w'=>∃u,e=.returned u/\xZ w w' a u (es.take i++vs++es.drop i):=by
 by_cases m:i=es.length
 ·subst m
  have:=aBW a es d vs (.slice b vs.length c) w k hn f ⟨b,c,rfl⟩ h j n
  rw[List.take_of_length_le (nR _),List.drop_of_length_le (nR _),List.append_nil];exact this
 ·cases a with
  | none=>obtain⟨rfl,_⟩:=hn rfl;exact absurd (by simpa using v:i=0) (by simpa using m)
  | some g=>
   by_cases x:d.length<vs.length
   ·exact zL g es d vs b c i w (k g rfl) f (by omega) h j x
   ·rcases f with⟨_,q⟩ | ⟨l,o,t,xs,f,p,r,s⟩
    ·rw[q]at h;simp at h
    ·simp only[Value.slice.injEq,true_and]at f
     obtain⟨rfl,rfl⟩:=f;exact zM g es d vs l o c i xs w (k g rfl) p r s (fun e=>y l (o*3) vs.length c rfl (by rw[e])) (by omega) h j (by omega) n
