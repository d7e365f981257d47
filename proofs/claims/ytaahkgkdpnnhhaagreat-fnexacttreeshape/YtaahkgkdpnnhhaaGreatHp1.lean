import Derived.Deep.AppendSrc
import Derived.Deep.RegionHeld3
import Derived.Deep.RegionLaw
import Derived.Deep.Upon
import Derived.Test.YtaahkgkdpnnhhaaGreatInv
import Derived.Test.YtaahkgkdpnnhhaaGreatFo25
set_option maxHeartbeats 9999999
set_option maxRecDepth 99999
set_option linter.all false
namespace Go.Proofs.YtaahkgkdpnnhhaaGreat
open Go.RowKit Fo
variable{a:Act}{p:Addr}{ops:Array Oper}{cs:Array Value}{Q:Exit→Act→World→Prop}{g i:Nat}{S:Nat→Prop}{o:Oper}{P:Program}{α:Type}{t:TypeId}{w w':World}
def IsC(w:World)(g:Nat)(cs:Array Value)(t:TypeId):Prop:=w.heap[g]?=some (.cells cs t (0,0))
theorem IsC.lt(h:IsC w g cs t):g<w.heap.size:=(Array.getElem?_eq_some_iff.1 h).1
theorem IsC.cell(h:IsC w g cs t)(i:Nat):w.cell? ⟨g,i,none⟩=cs[i]?:=by
 unfold IsC at h;simp[World.cell?,h]
theorem IsC.frozen(h:IsC w g cs t)(i:Nat):w.frozen? ⟨g,i,none⟩=false:=by
 unfold IsC at h;simp[World.frozen?,h]
theorem IsC.of(h:IsC w g cs t)(he:w'.heap[g]?=w.heap[g]?):IsC w' g cs t:=he.trans h
theorem IsC.drew(h:IsC w g cs t):IsC w.drew g cs t:=h
theorem lX(w:World)(o:Obj)(h:g<w.heap.size):(w.alloc o).heap[g]?=w.heap[g]?:=by
 have:=((bQ w.heap.size w).alloc (nR _) o).block g h
 exact this
theorem IsC.alloc(h:IsC w g cs t)(o:Obj):IsC (w.alloc o) g cs t:=h.of (lX w o h.lt)
theorem IsC.new(w:World)(cs:Array Value)(t:TypeId):IsC (w.alloc (.cells cs t)) w.heap.size cs t:=by
 show(w.heap.push _)[w.heap.size]?=_
 simp
theorem IsC.c(h:IsC w g cs t){k:Nat}{v:Value}(e:cs[k]?=some v):w.cell? ⟨g,k,none⟩=some v:=(h.cell k).trans e
theorem iNw{w1:World}(h:w.alloc (.cells cs t)=w1)(hg:w.heap.size=g):IsC w1 g cs t:=by rw[←h,←hg];exact IsC.new _ _ _
theorem aX(w:World)(v:Value)(h:g≠p.block):(w.setCell p v).heap[g]?=w.heap[g]?:=by
 simp[World.setCell,Array.getElem?_modify,Ne.symm h]
theorem IsC.set(h:IsC w g cs t)(i:Nat)(v:Value):IsC (w.setCell ⟨g,i,none⟩ v) g (cs.setIfInBounds i v) t:=by
 unfold IsC at *;simp[World.setCell,Array.getElem?_modify,h]
theorem IsC.set_ne(h:IsC w g cs t)(v:Value)(hp:g≠p.block):IsC (w.setCell p v) g cs t:=h.of (aX w v hp)
def aJ(e:E3):List Value:=[.string e.1,.string e.2.1,.int .i64 e.2.2]
def bW(es:List E3):Array Value:=(es.flatMap aJ).toArray
theorem aG(es:List E3):(es.flatMap aJ).length=es.length*3:=by
 induction es with
 | nil=>rfl
 | cons e es ih=>simp only[List.flatMap_cons,lP,ih,List.length_cons];simp[aJ];omega
theorem fU(es:List E3):(bW es).size=es.length*3:=by unfold bW;rw[List.size_toArray,aG]
theorem kR(es:List E3)(hi:i<es.length):(es.flatMap aJ)[i*3]?=some (.string (es.getD i e0).1)∧(es.flatMap aJ)[i*3+1]?=some (.string (es.getD i e0).2.1)∧(es.flatMap aJ)[i*3+2]?=some (.int .i64 (es.getD i e0).2.2):=by
 induction es generalizing i with
 | nil=>simp at hi
 | cons e es ih=>
  cases i with
  | zero=>simp[aJ]
  | succ i=>
   have:=ih (i:=i) (by simpa using hi)
   have e1:(e :: es).flatMap aJ=aJ e++es.flatMap aJ:=List.flatMap_cons;have l3:(aJ e).length=3:=rfl;rw[e1];rw[List.getElem?_append_right (by rw[l3];omega),List.getElem?_append_right (by rw[l3];omega),List.getElem?_append_right (by rw[l3];omega),l3];rw[show(i+1)*3-3=i*3 by omega,show(i+1)*3+1-3=i*3+1 by omega,show(i+1)*3+2-3=i*3+2 by omega];simpa using this
theorem aHN(es:List E3)(hi:i<es.length):(bW es)[i*3]?=some (.string (es.getD i e0).1)∧(bW es)[i*3+1]?=some (.string (es.getD i e0).2.1)∧(bW es)[i*3+2]?=some (.int .i64 (es.getD i e0).2.2):=by
 simpa [bW] using kR es hi
def adr(a:Option Nat):Option Addr:=a.map fun g=>⟨g,0,none⟩
structure aM(w:World)(q:Nat)(d:Nd)(a:Option Nat)(junk:List E3):Prop where
 box:IsC w q #[.int .i64 d.1,.slice (adr a) d.2.length (d.2.length+junk.length)] 108
 arr:∀g,a=some g→IsC w g (bW (d.2++junk)) 110∧g≠q
 nil:a=none→d.2=[]∧junk=[]
 small:d.2.length+junk.length≤maxLen
theorem nF(q:Nat)(d:Nd)(a:Option Nat)(junk:List E3)(w:World)(h:aM w q d a junk):
  Calls Tryz.prog 116 #[.pointer (some ⟨q,0,none⟩)] w fun e w'=>e=.returned (.bool (decide (d.2.length=5)))∧w'=w:=by
 have h1:w.cell? ⟨q,1,none⟩=some (.slice (adr a) d.2.length (d.2.length+junk.length)):=by rw[h.box.cell];rfl
 have hs:d.2.length+junk.length≤9223372036854775807:=by have:=h.small;simp[maxLen]at this;omega
 go_enter Tryz.func116,Tryz.ntmps116
 go_wp2
 go_ret
 exact⟨by simp;congr 1;rw[Bool.eq_iff_iff];simp;omega,rfl⟩
def spl(l:List α)(o:Nat)(vs:List α):List α:=l.take o++vs++l.drop (o+vs.length)
theorem aKC(l:List α)(o:Nat):spl l o []=l:=by simp[spl]
theorem aHV(l:List α)(o:Nat)(v:α)(vs:List α)(h:o<l.length):spl (l.set o v) (o+1) vs=spl l o (v :: vs):=by
 unfold spl;have e1:(l.set o v).take (o+1)=l.take o++[v]:=by
  rw[List.set_eq_take_append_cons_drop,if_pos h,List.take_append,List.length_take,List.take_take];rw[show o+1-min o l.length=1 by omega,show min (o+1) o=o by omega];rfl
 have e2:(l.set o v).drop (o+1+vs.length)=l.drop (o+(v :: vs).length):=by
  rw[List.drop_set_of_lt (by omega)];congr 1;simp;omega
 rw[e1,e2];simp
theorem IsC.sets:∀(vs:List Value) {w:World} {cs:List Value} (o:Nat),IsC w g cs.toArray t→o+vs.length≤cs.length→IsC (w.setCells g o vs) g (spl cs o vs).toArray t
 | [],w,cs,o,h,hl=>by rw[aKC];exact h
 | v :: vs,w,cs,o,h,hl=>by
  simp only[List.length_cons]at hl;have h1:IsC (w.setCell ⟨g,o,none⟩ v) g (cs.set o v).toArray t:=by
   have:=h.set o v
   rwa [List.setIfInBounds_toArray]at this
  have:=IsC.sets vs (o+1) h1 (by simp;omega)
  rw[aHV _ _ _ _ (by omega)]at this;exact this
theorem jL:∀(vs:List Value) (w:World) (o:Nat) {k:Nat},k≠g→(w.setCells g o vs).heap[k]?=w.heap[k]?
 | [],_,_,_,_=>rfl
 | v :: vs,w,o,k,h=>by
  show((w.setCell ⟨g,o,none⟩ v).setCells g (o+1) vs).heap[k]?=_
  rw[jL vs _ _ h,aX _ _ h]
theorem cN:∀(vs:List Value) (w:World) (o:Nat),(w.setCells g o vs).heap.size=w.heap.size
 | [],_,_=>rfl
 | v :: vs,w,o=>by
  show((w.setCell ⟨g,o,none⟩ v).setCells g (o+1) vs).heap.size=_
  rw[cN vs];simp
structure Frm(S:Nat→Prop)(w w':World):Prop where
 os:w'.os=w.os
 tape:w'.tape=w.tape
 output:w'.output=w.output
 size:w.heap.size≤w'.heap.size
 block:∀k,k<w.heap.size→¬S k→w'.heap[k]?=w.heap[k]?
theorem Frm.refl(S:Nat→Prop)(w:World):Frm S w w:=⟨rfl,rfl,rfl,nR _,fun _ _ _=>rfl⟩
theorem Frm.trans{a b c:World}(h:Frm S a b)(k:Frm S b c):Frm S a c:=
 ⟨k.os.trans h.os,k.tape.trans h.tape,k.output.trans h.output,lT h.size k.size,fun i hi hn=>(k.block i (lL hi h.size) hn).trans (h.block i hi hn)⟩
theorem Frm.wide{S':Nat→Prop}(h:Frm S w w')(hs:∀k,k<w.heap.size→S k→S' k):Frm S' w w':=⟨h.os,h.tape,h.output,h.size,fun k hk hn=>h.block k hk fun q=>hn (hs k hk q)⟩
theorem Frm.of_below(h:Bl w w'):Frm S w w':=⟨h.os,h.tape,h.output,h.size,fun k hk _=>h.block k hk⟩
theorem Frm.below{B:Nat}(h:Frm S w w')(hB:B≤w.heap.size)(hS:∀k,S k→B≤k):Below B w w':=⟨h.os,h.tape,h.output,h.size,fun k hk=>h.block k (by omega) fun q=>by have:=hS k q;omega⟩
theorem gG:∀(vs:List Value) (w:World) (o:Nat),(w.setCells g o vs).os=w.os∧(w.setCells g o vs).tape=w.tape∧(w.setCells g o vs).output=w.output
 | [],_,_=>⟨rfl,rfl,rfl⟩
 | v :: vs,w,o=>gG vs (w.setCell ⟨g,o,none⟩ v) (o+1)
theorem Frm.sets(w:World)(hg:S g)(o:Nat)(vs:List Value):Frm S w (w.setCells g o vs):=
 ⟨(gG vs w o).1,(gG vs w o).2.1,(gG vs w o).2.2,by rw[cN];exact nR _,fun k _ hn=>jL vs w o fun e=>hn (e▸hg)⟩
theorem Frm.set(w:World)(hp:S p.block)(u:Value):Frm S w (w.setCell p u):=
 ⟨rfl,rfl,rfl,by simp,fun k _ hn=>aX w u fun e=>hn (e▸hp)⟩
theorem Frm.alloc(S:Nat→Prop)(w:World)(o:Obj):Frm S w (w.alloc o):=Frm.of_below ((bQ w.heap.size w).alloc (nR _) o)
theorem Frm.drew(S:Nat→Prop)(w:World):Frm S w w.drew:=⟨rfl,rfl,rfl,nR _,fun _ _ _=>rfl⟩
theorem IsC.frm(h:IsC w g cs t)(k:Frm S w w')(hn:¬S g):IsC w' g cs t:=h.of (k.block g h.lt hn)
theorem aLI:(Tryz.prog.info? 110).map (fun i=>(i.zero,i.size,i.bytes))=some (some (.agg #[.string .empty,.string .empty,.int .i64 0]),3,40):=by kernel_rfl
theorem pJ:∃i,Tryz.prog.info? 110=some i∧i.size=3∧i.bytes=40∧i.zero=some (.agg #[.string .empty,.string .empty,.int .i64 0]):=by
 have h:=aLI;cases e:Tryz.prog.info? 110 with
 | none=>rw[e]at h;cases h
 | some i=>
  rw[e]at h;simp only[Option.map_some,sJ,Prod.mk.injEq]at h;exact⟨i,rfl,h.2.1,h.2.2,h.1⟩
theorem lQ(w:World)(ty:TypeId)(b o dLen dCap:Nat)(a:Addr)(sLen sCap:Nat)(cs:List Value)(hn:cs.length=Nat.min sLen dLen*3)
  (dz:∀j v,cs[j]?=some v→w.cell? (a.add j)=some v) (hc:∀j,j<cs.length→(w.cell? ⟨b,o+j,none⟩).isSome=true) (hf:∀j,j<cs.length→w.frozen? ⟨b,o+j,none⟩=false) (h1:∀v∈cs,v.oneCell'=true):
  (Builtin.copy_ #[106,106] ty #[.slice (some ⟨b,o,none⟩) dLen dCap,.slice (some a) sLen sCap]).run Tryz.prog w=.ok (goInt (Nat.min sLen dLen)) (w.setCells b o cs):=by
 have hl:=run_loadCells_list (P:=Tryz.prog) w a cs dz;have qk:=run_storeCells_cells (P:=Tryz.prog) b o cs 0 w (by simpa using hc) (by simpa using hf) h1;obtain⟨i,hi,h3,_,_⟩:=pJ;simp[Builtin.copy_,run_underlying Tryz.underlying106,Builtin.lenOf,Builtin.firstCells,sizeOf,typeInfo,hi,h3,←hn,hl,qk]
theorem eG(es:List E3):∀v∈es.flatMap aJ,v.oneCell'=true:=fun v hv=>by
 obtain⟨e,_,he⟩:=List.mem_flatMap.1 hv;simp only[aJ,List.mem_cons,List.not_mem_nil,or_false]at he;rcases he with rfl | rfl | rfl<;>rfl
theorem gN(xs ys:List E3)(i:Nat):spl (xs.flatMap aJ) (i*3) (ys.flatMap aJ)=(spl xs i ys).flatMap aJ:=by
 have tk:∀(l:List E3) (n:Nat),(l.flatMap aJ).take (n*3)=(l.take n).flatMap aJ:=by
  intro l;induction l with
  | nil=>intro n;simp
  | cons e l ih=>
   intro n;cases n with
   | zero=>simp
   | succ n=>
    have l3:(aJ e).length=3:=rfl;rw[List.flatMap_cons,List.take_succ_cons,List.flatMap_cons,List.take_append,l3,List.take_of_length_le (by rw[l3];omega),show(n+1)*3-3=n*3 by omega,ih]
 have dr:∀(l:List E3) (n:Nat),(l.flatMap aJ).drop (n*3)=(l.drop n).flatMap aJ:=by
  intro l;induction l with
  | nil=>intro n;simp
  | cons e l ih=>
   intro n;cases n with
   | zero=>simp
   | succ n=>
    have l3:(aJ e).length=3:=rfl;rw[List.flatMap_cons,List.drop_succ_cons,List.drop_append,l3,List.drop_of_length_le (by rw[l3];omega),show(n+1)*3-3=n*3 by omega,ih,List.nil_append]
 unfold spl;rw[tk,aG,←Nat.add_mul,dr,List.flatMap_append,List.flatMap_append]
def Esl(w:World)(v:Value)(es:List E3):Prop:=
 (v=.slice none 0 0∧es=[])∨∃g o cap xs,v=.slice (some ⟨g,o*3,none⟩) es.length cap∧IsC w g (bW xs) 110∧o+es.length≤xs.length∧(xs.drop o).take es.length=es
theorem Esl.cells{o:Nat}{xs es:List E3}(h:IsC w g (bW xs) 110)(hl:o+es.length≤xs.length)(he:(xs.drop o).take es.length=es):∀j v,(es.flatMap aJ)[j]?=some v→w.cell? ((⟨g,o*3,none⟩:Addr).add j)=some v:=fun j v hj=>by
 have ub:(⟨g,o*3,none⟩:Addr).add j=⟨g,o*3+j,none⟩:=by unfold Addr.add;split<;>simp_all
 rw[ub,h.cell];have e1:spl (xs.flatMap aJ) (o*3) (es.flatMap aJ)=xs.flatMap aJ:=by
  rw[gN];congr 1;unfold spl;rw[←he,List.length_take,List.length_drop,List.append_assoc];rw[show min es.length (xs.length-o)=es.length by omega];rw[←List.drop_drop,List.take_append_drop,List.take_append_drop]
 have xx:j <(es.flatMap aJ).length:=(List.getElem?_eq_some_iff.1 hj).1;have:(bW xs)[o*3+j]?=(xs.flatMap aJ)[o*3+j]?:=by simp[bW]
 rw[this,←e1];unfold spl;have ph:((xs.flatMap aJ).take (o*3)).length=o*3:=by
  rw[List.length_take,aG];omega
 rw[List.append_assoc,List.getElem?_append_right (by omega),ph,show o*3+j-o*3=j by omega,List.getElem?_append_left xx];exact hj
theorem aDC(m:Nat):Builtin.zeroCells #[.string .empty,.string .empty,.int .i64 0] m=((List.replicate m e0).flatMap aJ).toArray:=by
 apply Array.toList_inj.1
 simp only[Builtin.zeroCells,List.size_toArray,List.length_cons,List.length_nil,Array.toList_map,Array.toList_range];induction m with
 | zero=>rfl
 | succ m ih=>
  have hr:List.range ((m+1)*3)=List.range (m*3)++[m*3,m*3+1,m*3+2]:=by
   rw[show(m+1)*3=m*3+1+1+1 by omega,List.range_succ,List.range_succ,List.range_succ];simp
  have hp:List.replicate (m+1) e0=List.replicate m e0++[e0]:=List.replicate_succ';rw[hp,List.flatMap_append,←ih];simp only[Nat.zero_add,Nat.reduceAdd];rw[hr,List.map_append];congr 1;simp only[List.map_cons,List.map_nil,show m*3 % 3=0 by omega,show(m*3+1) % 3=1 by omega,show(m*3+2) % 3=2 by omega];rfl
theorem cH{rest:List Oper}(ie:o.guard=none)(s x:Operand)(t tn:TypeId)
  (ho:o.op=.call {callee:=.builtin .append,args:=#[s,x],argTypes:=#[t,tn]}) (vs vx:Value) (hs:a.eval s=vs) (hx:a.eval x=vx)
  (v':Value) (w':World) (hr:(Builtin.append_ #[t,tn] o.type #[vs,vx]).run P w=.ok v' w') (h:wpList P ops Q rest (a.put o.dst v') w'):wpList P ops Q (o :: rest) a w:=by
 refine wpList_plain ie fun K hK=>?_;unfold Oper.wp execOp;simp only[ho,resolve,invoke,builtin,Sem.run_bind,Sem.run_pure,Result.andThen_ok,List.map_toArray,List.map_cons,List.map_nil,hs,hx,hr];exact hK _ _ h
structure aMJ(w w':World)(v:Value)(es:List E3):Prop where
 ex:∃a junk,v=.slice (adr a) es.length (es.length+junk.length)∧(∀g,a=some g→w.heap.size≤g∧IsC w' g (bW (es++junk)) 110)∧(a=none→es=[]∧junk=[])∧es.length+junk.length≤maxLen
 below:Bl w w'
theorem oS(v:Value)(es:List E3)(w:World)(hv:Esl w v es)(ft:es.length≤10):
  Calls Tryz.prog 152 #[v] w fun e w'=>∃v',e=.returned v'∧aMJ w w' v' es:=by
 obtain⟨i,hi,h3,Ai,hz⟩:=pJ;rcases hv with⟨rfl,rfl⟩ | ⟨g,o,cap,xs,rfl,hx,hl,he⟩
 ·have AU:=fun w=>Lib.run_eql_slice_nil (P:=Tryz.prog) w 106 110 none 0 0 0 0 Tryz.underlying106
  go_enter Tryz.func152,Tryz.ntmps152
  go_wp2
  go_ret
  exact⟨_,rfl,⟨none,[],by simp[adr],fun g q=>(by cases q),fun _=>⟨rfl,rfl⟩,by simp⟩,bQ _ _⟩
 ·have AU:=fun w=>Lib.run_eql_slice_nil (P:=Tryz.prog) w 106 110 (some ⟨g,o*3,none⟩) es.length cap 0 0 Tryz.underlying106
  have yl:IsC (w.alloc (.cells #[] 110)) g (bW xs) 110:=hx.alloc _;have dz:=Src.ofSlice (P:=Tryz.prog) (w.alloc (.cells #[] 110)) (size:=i.size) (tx:=106) Tryz.underlying106 ⟨g,o*3,none⟩ es.length cap (es.flatMap aJ) (by rw[aG,h3]) (Esl.cells yl hl he) (eG es);have hB:=(bQ w.heap.size w).alloc (nR _) (.cells #[] 110);by_cases h0:es.length=0
  ·have e0:es=[]:=List.length_eq_zero_iff.1 h0
   subst e0;have M1:=fun w=>Lib.run_eql_slice_nil (P:=Tryz.prog) w 106 110 (some ⟨g,o*3,none⟩) 0 cap 0 0 Tryz.underlying106;have hr:=fun ty=>run_append_room_src (P:=Tryz.prog) (w.alloc (.cells #[] 110)) 106 106 ty 110 i Tryz.underlying106 hi w.heap.size 0 0 0 _ 0 [] dz (by omega) (fun j hj=>by simp at hj) (fun j hj=>by simp at hj);go_enter Tryz.func152,Tryz.ntmps152;go_wp2_with (at_builtin;refine cH rfl _ _ _ _ rfl (.slice (some ⟨w.heap.size,0,none⟩) 0 0) (.slice (some ⟨g,o*3,none⟩) 0 cap) rfl rfl _ _ (hr _) ?_);go_ret;exact⟨_,rfl,⟨some w.heap.size,[],by simp[adr],fun g q=>(by cases q;exact⟨nR _,IsC.new _ _ _⟩),fun q=>(by cases q),by simp⟩,hB⟩
  ·have sq:(Builtin.firstCells i.size 0 (.slice (some ⟨w.heap.size,0,none⟩) 0 0)).run Tryz.prog (w.alloc (.cells #[] 110)).drew=.ok ([]:List Value).toArray (w.alloc (.cells #[] 110)).drew:=by
    have:=run_firstCells_some (P:=Tryz.prog) (w.alloc (.cells #[] 110)).drew i.size 0 ⟨w.heap.size,0,none⟩ 0 0 [] (by simp) (fun j v hj=>by simp at hj)
    exact this
   have hr:=fun ty=>run_append_grow_src (P:=Tryz.prog) (w.alloc (.cells #[] 110)) 106 106 ty 110 i _ Tryz.underlying106 hi hz (some ⟨w.heap.size,0,none⟩) 0 0 [] sq _ es.length (es.flatMap aJ) dz (by omega) (by omega) (by rw[nextslicecap_zero (by omega),Ai];omega);go_enter Tryz.func152,Tryz.ntmps152;go_wp2_with (at_builtin;refine cH rfl _ _ _ _ rfl (.slice (some ⟨w.heap.size,0,none⟩) 0 0) (.slice (some ⟨g,o*3,none⟩) es.length cap) rfl rfl _ _ (hr _) ?_);go_ret;have xr:=grownCap_ge (w.alloc (.cells #[] 110)) es.length 0 110;have ph:=grownCap_le_maxLen (w.alloc (.cells #[] 110)) es.length 0 110 (by simp[maxLen];omega);generalize grownCap (w.alloc (.cells #[] 110)) es.length 0 110=gc at *;refine⟨_,rfl,⟨some (w.heap.size+1),List.replicate (gc-es.length) e0,?_,fun g q=>?_,fun q=>(by cases q),?_⟩,?_⟩
   ·simp[adr];omega
   ·cases q
    refine⟨by omega,?_⟩;have:=IsC.new (w.alloc (.cells #[] 110)) ((es.flatMap aJ).toArray++Builtin.zeroCells #[.string .empty,.string .empty,.int .i64 0] (gc-es.length)) 110;rw[World.size_alloc]at this;rw[aDC]at this ⊢;simpa [bW] using this.drew
   ·simp;omega
   ·exact(hB.alloc (by simp) _).drew
theorem xJ{K:Act→World→Prop}{E:Prop}(ie:o.guard=none)(s x:Operand)(t tn:TypeId)
  (ho:o.op=.call {callee:=.builtin .append,args:=#[s,x],argTypes:=#[t,tn]}) (vs vx:Value) (hs:a.eval s=vs) (hx:a.eval x=vx)
  (v':Value) (w':World) (hr:(Builtin.append_ #[t,tn] o.type #[vs,vx]).run P w=.ok v' w') (h:K (a.put o.dst v') w'):if Region.wanted o (yielded ops a.tmps)=true then Oper.wp P o a w K Q else E:=by
 rw[if_pos (by simp[Region.wanted,ie])];unfold Oper.wp execOp;simp only[ho,resolve,invoke,builtin,Sem.run_bind,Sem.run_pure,Result.andThen_ok,List.map_toArray,List.map_cons,List.map_nil,hs,hx,hr];exact h
theorem aBG(w:World)(ty:TypeId)(b o n cap:Nat)(hn:0<n)(hc:∀j,j<n*3→(w.cell? ⟨b,o+j,none⟩).isSome=true)(hf:∀j,j<n*3→w.frozen? ⟨b,o+j,none⟩=false):
  (Builtin.clear_ #[106] ty #[.slice (some ⟨b,o,none⟩) n cap]).run Tryz.prog w=.ok (.tuple #[]) (w.setCells b o ((List.replicate n e0).flatMap aJ)):=by
 have hl:((List.replicate n e0).flatMap aJ).length=n*3:=by rw[aG];simp
 have qk:=run_storeCells_cells (P:=Tryz.prog) b o ((List.replicate n e0).flatMap aJ) 0 w (by rw[hl];simpa using hc) (by rw[hl];simpa using hf) (eG _);obtain⟨i,hi,h3,_,hz⟩:=pJ;have ry:(zeroValue 110).run Tryz.prog w=.ok (.agg #[.string .empty,.string .empty,.int .i64 0]) w:=by
  simp[zeroValue,typeInfo,hi,hz]
 have au:(Value.agg #[.string .empty,.string .empty,.int .i64 0]).cells=#[.string .empty,.string .empty,.int .i64 0]:=by kernel_rfl
 have Ng:(Builtin.zeroCells (Value.agg #[.string .empty,.string .empty,.int .i64 0]).cells n).toList=(List.replicate n e0).flatMap aJ:=by rw[au,aDC]
 generalize (Value.agg #[.string .empty,.string .empty,.int .i64 0])=Z at ry Ng;generalize (List.replicate n e0).flatMap aJ=L at *;obtain⟨m,rfl⟩:∃m,n=m+1:=⟨n-1,by omega⟩;simp at qk;simp[Builtin.clear_,run_underlying Tryz.underlying106,ry,Ng,qk]
theorem rH(g:Nat)(es junk:List E3)(i j:Nat)(w:World)(hx:IsC w g (bW (es++junk)) 110)(im:i<j)(hj:j≤es.length)(ft:es.length≤10)(hm:es.length+junk.length≤maxLen):
  Calls Tryz.prog 144 #[.slice (some ⟨g,0,none⟩) es.length (es.length+junk.length),.int .i64 i,.int .i64 j] w fun e w'=>e=.returned (.slice (some ⟨g,0,none⟩) (es.length -(j-i)) (es.length+junk.length))∧IsC w' g (bW (es.take i++es.drop j++(List.replicate (j-i) e0++junk))) 110∧Frm (fun k=>k=g) w w':=by
 obtain⟨i0,hi,h3,Ai,hz⟩:=pJ;have gy:es.length+junk.length≤9223372036854775807:=by simp[maxLen]at hm;omega
 have av:((i:Int) ==(j:Int))=false:=by rw[beq_eq_false_iff_ne];omega
 have ao:(i:Int)≤(es.length:Int)+(junk.length:Int):=by omega
 obtain⟨ad,hA,hA'⟩:∃ad:Addr,(if es.length+junk.length=j then some (⟨g,0,none⟩:Addr)else some ⟨g,j*3,none⟩)=some ad∧(0<es.length-j→ad=⟨g,j*3,none⟩):=by
  by_cases e:es.length+junk.length=j
  ·exact⟨⟨g,0,none⟩,by rw[if_pos e],fun q=>by omega⟩
  ·exact⟨⟨g,j*3,none⟩,by rw[if_neg e],fun _=>rfl⟩
 have fe:(es.drop j).length=es.length-j:=List.length_drop;have dz:∀W:World,IsC W g (bW (es++junk)) 110→Src Tryz.prog i0.size 106 (.slice (some ad) (es.length-j) (es.length+junk.length-j)) (es.length-j) ((es.drop j).flatMap aJ) W:=fun W hW=>by
  refine Src.ofSlice W Tryz.underlying106 ad _ _ _ (by rw[aG,h3,fe]) ?_ (eG _);by_cases q:0<es.length-j
  ·rw[hA' q]
   refine Esl.cells hW (by rw[fe,lP];omega) ?_;rw[List.drop_append,fe,List.take_append,fe];rw[List.take_of_length_le (by rw[fe];exact nR _)];simp
  ·have e:es.drop j=[]:=List.length_eq_zero_iff.1 (by omega)
   rw[e];intro k v hk;simp at hk
 have bd:(bW (es++junk)).size=(es.length+junk.length)*3:=by rw[fU,lP]
 have hr:∀W:World,IsC W g (bW (es++junk)) 110→∀ty,(Builtin.append_ #[106,106] ty #[.slice (some ⟨g,0,none⟩) i (es.length+junk.length),.slice (some ad) (es.length-j) (es.length+junk.length-j)]).run Tryz.prog W=.ok (.slice (some ⟨g,0,none⟩) (i+(es.length-j)) (es.length+junk.length)) (W.setCells g (i*3) ((es.drop j).flatMap aJ)):=fun W hW ty=>by
  have:=run_append_room_src (P:=Tryz.prog) W 106 106 ty 110 i0 Tryz.underlying106 hi g 0 i (es.length+junk.length) _ _ _ (dz W hW) (by omega)
   (fun k hk=>by rw[aG,fe]at hk;rw[hW.cell,h3,Array.getElem?_eq_getElem (by rw[bd];omega)];rfl) (fun k hk=>hW.frozen _)
  rw[h3,Nat.zero_add]at this;exact this
 clear dz fe;obtain⟨lo,pq⟩:∃lo,lo=i+(es.length-j):=⟨_,rfl⟩;have jr:∀W:World,IsC W g (bW (es++junk)) 110→∀ty,(Builtin.append_ #[106,106] ty #[.slice (some ⟨g,0,none⟩) i (es.length+junk.length),.slice (some ad) (es.length-j) (es.length+junk.length-j)]).run Tryz.prog W=.ok (.slice (some ⟨g,0,none⟩) lo (es.length+junk.length)) (W.setCells g (i*3) ((es.drop j).flatMap aJ)):=fun W hW ty=>by rw[pq];exact hr W hW ty
 clear hr;have HL:Hid (lo=i+(es.length-j)):=pq;have q1:¬es.length+junk.length=lo:=by omega
 have q2:(lo:Int)≤(es.length:Int):=by omega
 have q3:(es.length:Int)≤(es.length:Int)+(junk.length:Int):=by omega
 have q4:lo<es.length:=by omega
 clear pq;have pr:∀W:World,IsC W g (bW (es++junk)) 110→IsC (W.setCells g (i*3) ((es.drop j).flatMap aJ)) g (bW (spl (es++junk) i (es.drop j))) 110:=fun W hW=>by
  have:=IsC.sets ((es.drop j).flatMap aJ) (cs:=(es++junk).flatMap aJ) (i*3) hW (by rw[aG,aG,lP,List.length_drop];omega)
  rw[gN]at this;exact this
 have kw:(spl (es++junk) i (es.drop j)).length=es.length+junk.length:=by
  unfold spl;simp only[lP,List.length_take,List.length_drop];omega
 have au:∀W:World,IsC W g (bW (spl (es++junk) i (es.drop j))) 110→∀ty c,(Builtin.clear_ #[106] ty #[.slice (some ⟨g,lo*3,none⟩) (es.length-lo) c]).run Tryz.prog W=.ok (.tuple #[]) (W.setCells g (lo*3) ((List.replicate (es.length-lo) e0).flatMap aJ)):=fun W hW ty c=>
  aBG W ty g (lo*3) (es.length-lo) c (by omega) (fun k hk=>by rw[hW.cell,Array.getElem?_eq_getElem (by rw[fU,kw];omega)];rfl) (fun k hk=>hW.frozen _)
 go_enter Tryz.func144,Tryz.ntmps144
 go_wp2_with fail
 go_region_law (refine xJ (by rfl) _ _ _ _ (by rfl) (.slice (some ⟨g,0,none⟩) i (es.length+junk.length)) (.slice (some ad) (es.length-j) (es.length+junk.length-j)) (by rfl) (by rfl) _ _ (jr _ (by first | exact hx | exact hx.drew | exact hx.drew.drew) _) ?_)
 have V6:=au (w.drew.setCells g (i*3) ((es.drop j).flatMap aJ)) (pr _ hx.drew);go_wp2;go_ret;have e:=HL.out;have bg:=IsC.sets ((List.replicate (es.length-lo) e0).flatMap aJ) (cs:=(spl (es++junk) i (es.drop j)).flatMap aJ) (lo*3) (pr _ hx.drew) (by rw[aG,aG,kw,List.length_replicate];omega);rw[gN]at bg;have AQ:spl (spl (es++junk) i (es.drop j)) lo (List.replicate (es.length-lo) e0)=es.take i++es.drop j++(List.replicate (j-i) e0++junk):=by
  have l2:(es.take i++es.drop j).length=lo:=by simp only[lP,List.length_take,List.length_drop];omega
  have hX:spl (es++junk) i (es.drop j)=es.take i++es.drop j++(es++junk).drop lo:=by
   unfold spl;rw[List.take_append_of_le_length (by omega),List.length_drop,show i+(es.length-j)=lo by omega]
  rw[hX];unfold spl;have t1:(es.take i++es.drop j++(es++junk).drop lo).take lo=es.take i++es.drop j:=by
   have tl:∀(A Y:List E3),A.length=lo→(A++Y).take lo=A:=fun A Y h=>by rw[←h];exact List.take_left
   exact tl _ _ l2
  have t2:(es.take i++es.drop j++(es++junk).drop lo).drop (lo+(List.replicate (es.length-lo) e0).length)=junk:=by
   rw[List.length_replicate,←List.drop_drop];have dl:∀(A Y:List E3),A.length=lo→(A++Y).drop lo=Y:=fun A Y h=>by rw[←h];exact List.drop_left
   rw[dl _ _ l2,List.drop_drop,show lo+(es.length-lo)=es.length by omega];exact List.drop_left
  rw[t1,t2,show es.length-lo=j-i by omega,List.append_assoc]
 rw[AQ]at bg;refine⟨by rw[show es.length -(j-i)=lo by omega];simp,bg.drew,?_⟩;exact(((Frm.drew (fun k=>k=g) w).trans (Frm.sets (S:=fun k=>k=g) _ rfl _ _)).trans (Frm.sets (S:=fun k=>k=g) _ rfl _ _)).trans (Frm.refl _ _)
theorem aHW(es junk vs:List E3)(h:vs.length≤junk.length):spl (es++junk) es.length vs=es++vs++junk.drop vs.length:=by
 unfold spl;rw[List.take_left,←List.drop_drop,List.drop_left]
theorem aCY(l:List α)(o:Nat)(vs:List α)(h:o+vs.length≤l.length):(spl l o vs).length=l.length:=by
 unfold spl;simp only[lP,List.length_take,List.length_drop];omega
theorem aKP{need old:Nat}(h:need≤20)(ho:old<need):Builtin.nextslicecap need old*40≤281474976710656:=by
 have:=growslice_fits (bytes:=40) (need:=need) (old:=old) (by omega) (by omega)
 exact this
theorem xQ(a:Option Nat)(es junk vs:List E3)(v:Value)(W:World)(ha:∀g,a=some g→IsC W g (bW (es++junk)) 110)(hn:a=none→es=[]∧junk=[])(hv:Esl W v vs)(Ah:es.length+vs.length≤20)(hm:es.length+junk.length≤maxLen):
  ∃u W' a' junk',(∀ty,(Builtin.append_ #[106,106] ty #[.slice (adr a) es.length (es.length+junk.length),v]).run Tryz.prog W=.ok u W')∧u=.slice (adr a') (es.length+vs.length) (es.length+vs.length+junk'.length)∧
   (∀g,a'=some g→IsC W' g (bW (es++vs++junk')) 110∧(a=some g∨W.heap.size≤g))∧(a'=none→es=[]∧vs=[]∧junk'=[])∧es.length+vs.length+junk'.length≤maxLen∧Frm (fun k=>a=some k) W W':=by
 obtain⟨i0,hi,h3,Ai,hz⟩:=pJ;have dz:Src Tryz.prog i0.size 106 v vs.length (vs.flatMap aJ) W:=by
  rcases hv with⟨rfl,rfl⟩ | ⟨gv,o,cap,xs,rfl,hx,hl,he⟩
  ·exact Src.ofNil W Tryz.underlying106 0
  ·exact Src.ofSlice W Tryz.underlying106 ⟨gv,o*3,none⟩ vs.length cap _ (by rw[aG,h3]) (Esl.cells hx hl he) (eG vs)
 by_cases jt:vs.length≤junk.length
 ·cases a with
  | none=>
   obtain⟨rfl,rfl⟩:=hn rfl;have GQ:vs=[]:=List.length_eq_zero_iff.1 (by simpa using jt);subst GQ;refine⟨_,W,none,[],fun ty=>?_,rfl,fun g q=>(by cases q),fun _=>⟨rfl,rfl,rfl⟩,by simp,Frm.refl _ _⟩;have:=run_append_nothing (P:=Tryz.prog) W 106 106 ty 110 i0 Tryz.underlying106 hi none 0 0 (nR _) v dz;exact this
  | some g=>
   have hg:=ha g rfl;refine⟨_,_,some g,junk.drop vs.length,fun ty=>run_append_room_src (P:=Tryz.prog) W 106 106 ty 110 i0 Tryz.underlying106 hi g 0 es.length (es.length+junk.length) v _ _ dz (by omega)
    (fun k hk=>by rw[aG]at hk;rw[hg.cell,h3,Array.getElem?_eq_getElem (by rw[fU,lP];omega)];rfl) (fun k hk=>hg.frozen _),?_,fun g' q=>?_,fun q=>(by cases q),?_,?_⟩
   ·simp[adr];omega
   ·cases q
    refine⟨?_,.inl rfl⟩;have:=IsC.sets (vs.flatMap aJ) (cs:=(es++junk).flatMap aJ) (es.length*3) hg (by rw[aG,aG,lP];omega);rw[gN,aHW _ _ _ jt]at this;rw[h3,Nat.zero_add];exact this
   ·simp;omega
   ·exact Frm.sets (S:=fun k=>some g=some k) _ rfl _ _
 ·have sq:(Builtin.firstCells i0.size es.length (.slice (adr a) es.length (es.length+junk.length))).run Tryz.prog W.drew=.ok (es.flatMap aJ).toArray W.drew:=by
   cases a with
   | none=>
    obtain⟨rfl,rfl⟩:=hn rfl;exact run_firstCells_none (P:=Tryz.prog) W.drew i0.size 0 0 0
   | some g=>
    have hg:=ha g rfl;exact run_firstCells_some (P:=Tryz.prog) W.drew i0.size es.length ⟨g,0,none⟩ es.length _ (es.flatMap aJ) (by rw[aG,h3]) (by
     have:=Esl.cells (w:=W.drew) (g:=g) (o:=0) (xs:=es++junk) (es:=es) hg.drew (by rw[lP];omega) (by simp)
     rw[Nat.zero_mul]at this;exact this)
  have hr:=fun ty=>run_append_grow_src (P:=Tryz.prog) W 106 106 ty 110 i0 _ Tryz.underlying106 hi hz (adr a) es.length (es.length+junk.length) (es.flatMap aJ) sq v vs.length (vs.flatMap aJ) dz (by omega) (by omega) (by rw[Ai];exact aKP (by omega) (by omega));have xr:=grownCap_ge W (es.length+vs.length) (es.length+junk.length) 110;have ph:=grownCap_le_maxLen W (es.length+vs.length) (es.length+junk.length) 110 (by simp[maxLen];omega);generalize grownCap W (es.length+vs.length) (es.length+junk.length) 110=gc at *;refine⟨_,_,some W.heap.size,List.replicate (gc -(es.length+vs.length)) e0,hr,?_,fun g q=>?_,fun q=>(by cases q),?_,?_⟩
  ·simp[adr];omega
  ·cases q
   refine⟨?_,.inr (nR _)⟩;have au:(Value.agg #[.string .empty,.string .empty,.int .i64 0]).cells=#[.string .empty,.string .empty,.int .i64 0]:=by kernel_rfl
   have:=IsC.new W.drew ((es.flatMap aJ++vs.flatMap aJ).toArray++Builtin.zeroCells (Value.agg #[.string .empty,.string .empty,.int .i64 0]).cells (gc -(es.length+vs.length))) 110
   have e:bW (es++vs++List.replicate (gc -(es.length+vs.length)) e0)=(es.flatMap aJ++vs.flatMap aJ).toArray++Builtin.zeroCells (Value.agg #[.string .empty,.string .empty,.int .i64 0]).cells (gc -(es.length+vs.length)):=by
    rw[au,aDC];simp[bW]
   rw[e];exact this
  ·simp;omega
  ·exact(Frm.drew _ W).trans (Frm.alloc _ _ _)
def aLW(v:Value)(a:Option Nat):Prop:=∀gv o n c,v=.slice (some ⟨gv,o,none⟩) n c→a≠some gv
structure xO(w w':World)(a:Option Nat)(u:Value)(ls:List E3):Prop where
 ex:∃a' junk',u=.slice (adr a') ls.length (ls.length+junk'.length)∧(∀g,a'=some g→IsC w' g (bW (ls++junk')) 110∧(a=some g∨w.heap.size≤g))∧a'≠none∧ls.length+junk'.length≤maxLen
 frm:Frm (fun k=>a=some k) w w'
theorem aAS(a:Option Nat)(es junk vs:List E3)(v:Value)(w:World)(ha:∀g,a=some g→IsC w g (bW (es++junk)) 110)(hn:a=none→es=[]∧junk=[])(hv:Esl w v vs)(XW:∃b c,v=.slice b vs.length c)(h0:0<vs.length)(Ah:es.length+vs.length≤10)(hm:es.length+junk.length≤maxLen):
  Calls Tryz.prog 120 #[.slice (adr a) es.length (es.length+junk.length),.int .i64 es.length,v] w fun e w'=>∃u,e=.returned u∧xO w w' a u (es++vs):=by
 obtain⟨u,W',a',junk',hr,rfl,h1,h2,h3,h4⟩:=xQ a es junk vs v w ha hn hv (by omega) hm;have jr:=hr 106;obtain⟨b,c,rfl⟩:=XW;have gy:es.length+junk.length≤9223372036854775807:=by simp[maxLen]at hm;omega
 have hz:((vs.length:Int) == 0)=false:=by rw[beq_eq_false_iff_ne];omega
 have fin:∃u,Ending.returned (Value.slice (adr a') (es.length+vs.length) (es.length+vs.length+junk'.length))=.returned u∧xO w W' a u (es++vs):=
  ⟨_,rfl,⟨a',junk',by rw[lP],h1,fun e=>by obtain⟨_,q,_⟩:=h2 e;rw[q]at h0;simp at h0,by rw[lP];exact h3⟩,h4⟩
 have HF:Hid (∃u,Ending.returned (Value.slice (adr a') (es.length+vs.length) (es.length+vs.length+junk'.length))=.returned u∧xO w W' a u (es++vs)):=fin;clear h1 h2 h3 h4 fin hv ha hr hn;go_enter Tryz.func120,Tryz.ntmps120;go_wp2_with (at_builtin;refine cH rfl _ _ _ _ rfl (.slice (adr a) es.length (es.length+junk.length)) (.slice b vs.length c) rfl rfl _ _ jr ?_)
 all_goals (go_ret;exact HF.out)
theorem oD(W:World)(ty:TypeId)(g:Nat)(es:List E3)(cap k:Nat)(hs:∀j v,(es.flatMap aJ)[j]?=some v→W.cell? ((⟨g,0,none⟩:Addr).add j)=some v)(hk:0<k)(hc:cap<es.length+k)(Ah:es.length+k≤20):
  ∃gc,es.length+k≤gc∧gc≤maxLen∧(Builtin.append_ #[106,3] ty #[.slice (some ⟨g,0,none⟩) es.length cap,.int .i64 k]).run Tryz.prog W =
   .ok (.slice (some ⟨W.heap.size,0,none⟩) (es.length+k) gc) (W.drew.alloc (.cells (bW (es++List.replicate (gc-es.length) e0)) 110)):=by
 obtain⟨i0,hi,h3,Ai,hz⟩:=pJ;have xr:=grownCap_ge W (es.length+k) cap 110;have ph:=grownCap_le_maxLen W (es.length+k) cap 110 (by simp[maxLen];omega);refine⟨grownCap W (es.length+k) cap 110,xr,ph,?_⟩;have sq:(Builtin.firstCells i0.size es.length (.slice (some ⟨g,0,none⟩) es.length cap)).run Tryz.prog W.drew=.ok (es.flatMap aJ).toArray W.drew:=
  run_firstCells_some (P:=Tryz.prog) W.drew i0.size es.length ⟨g,0,none⟩ es.length _ (es.flatMap aJ) (by rw[aG,h3]) (by simpa using hs)
 have hw:IntKind.i64.wrap (k:Int)=k:=by rw[IntKind.wrap_i64];omega
 have GA:¬((k:Int)<0):=by omega
 have U7:¬(281474976710656 <(k:Int)*(40:Int)):=by omega
 have hn:¬(es.length+k≤cap):=by omega
 have U9:¬(9223372036854775807 <((es.length:Int)+(k:Int))):=by omega
 have Qe:¬(281474976710656<Builtin.nextslicecap (es.length+k) cap*40):=by have:=aKP (need:=es.length+k) (old:=cap) (by omega) (by omega);omega
 have au:(Value.agg #[.string .empty,.string .empty,.int .i64 0]).cells=#[.string .empty,.string .empty,.int .i64 0]:=by kernel_rfl
 have Ax:∀m,Builtin.zeroCells (Value.agg #[.string .empty,.string .empty,.int .i64 0]).cells m=((List.replicate m e0).flatMap aJ).toArray:=fun m=>by rw[au,aDC]
 generalize (Value.agg #[.string .empty,.string .empty,.int .i64 0])=Z at hz Ax;have Jn:¬(k*3=0):=by omega
 have Q3:Tryz.prog.underlying 3=some (.int .i64):=Tryz.underlying3;have od:((es.flatMap aJ).toArray++((List.replicate k e0).flatMap aJ).toArray++((List.replicate (grownCap W (es.length+k) cap 110 -(es.length+k)) e0).flatMap aJ).toArray)=bW (es++List.replicate (grownCap W (es.length+k) cap 110-es.length) e0):=by
  have e:List.replicate (grownCap W (es.length+k) cap 110-es.length) e0=List.replicate k e0++List.replicate (grownCap W (es.length+k) cap 110 -(es.length+k)) e0:=by
   rw[List.replicate_append_replicate];congr 1;omega
  apply Array.toList_inj.1
  simp only[bW,e,Array.toList_append,List.flatMap_append,List.append_assoc]
 rw[h3]at sq;generalize bW (es++List.replicate (grownCap W (es.length+k) cap 110-es.length) e0)=R at od ⊢;simp[Builtin.append_,run_underlying Tryz.underlying106,run_underlying Q3,sizeOf,typeInfo,zeroValue,asInt,asIntOf,hi,h3,Ai,hz,hw,GA,U7,hn,U9,Qe,Question.forced,sq,Ax,newRow,grownCap,Jn];rw[←od];simp[grownCap]
theorem yR(g:Nat)(es junk vs:List E3)(b:Option Addr)(c i:Nat)(w:World)(hx:IsC w g (bW (es++junk)) 110)(hv:Esl w (.slice b vs.length c) vs)(hi:i<es.length)(h0:0<vs.length)(Ah:es.length+vs.length≤10)(jt:junk.length<vs.length):
  Calls Tryz.prog 120 #[.slice (some ⟨g,0,none⟩) es.length (es.length+junk.length),.int .i64 i,.slice b vs.length c] w fun e w'=>∃u,e=.returned u∧xO w w' (some g) u (es.take i++vs++es.drop i):=by
 rcases hv with⟨hv,nw⟩ | ⟨gv,o,cap,xs,hv,C9,Mr,MX⟩
 ·rw[nw]at h0;simp at h0
 simp only[Value.slice.injEq,true_and]at hv;obtain⟨rfl,rfl⟩:=hv;have fw:(es.take i).length=i:=by rw[List.length_take];omega
 obtain⟨k,hk⟩:∃k,k=es.length+vs.length-i:=⟨_,rfl⟩;have NK:∀j v,((es.take i).flatMap aJ)[j]?=some v→w.cell? ((⟨g,0,none⟩:Addr).add j)=some v:=by
  have:=Esl.cells (w:=w) (g:=g) (o:=0) (xs:=es++junk) (es:=es.take i) hx (by rw[fw,lP];omega) (by rw[fw];simp[List.take_append_of_le_length (show i≤es.length by omega)])
  rw[Nat.zero_mul]at this;exact this
 obtain⟨gc,g9,mj,q9⟩:∃gc,es.length+vs.length≤gc∧gc≤maxLen∧∀ty,(Builtin.append_ #[106,3] ty #[.slice (some ⟨g,0,none⟩) i (es.length+junk.length),.int .i64 k]).run Tryz.prog w =
   .ok (.slice (some ⟨w.heap.size,0,none⟩) (es.length+vs.length) gc) (w.drew.alloc (.cells (bW (es.take i++List.replicate (gc-i) e0)) 110)):=by
  obtain⟨gc,q1,q2,q3⟩:=oD w 3 g (es.take i) (es.length+junk.length) k NK (by omega) (by rw[fw];omega) (by rw[fw];omega);rw[fw]at q1 q3;have WU:i+k=es.length+vs.length:=by omega
  rw[WU]at q1 q3;exact⟨gc,q1,q2,fun ty=>q3⟩
 have HK:Hid (k=es.length+vs.length-i):=hk;have gy:gc≤9223372036854775807:=by simp[maxLen]at mj;omega
 obtain⟨W1,z8⟩:∃W1,W1=w.drew.alloc (.cells (bW (es.take i++List.replicate (gc-i) e0)) 110):=⟨_,rfl⟩;rw[←z8]at q9;have hN:IsC W1 w.heap.size (bW (es.take i++List.replicate (gc-i) e0)) 110:=by rw[z8];exact IsC.new _ _ _
 have iN:Frm (fun k=>some g=some k) w W1:=by rw[z8];exact(Frm.drew _ w).trans (Frm.alloc _ _ _)
 have yl:IsC W1 g (bW (es++junk)) 110:=by rw[z8];exact hx.drew.alloc _
 have R3:IsC W1 gv (bW xs) 110:=by rw[z8];exact C9.drew.alloc _
 have Bg:=hx.lt;have X3:Hid (W1=w.drew.alloc (.cells (bW (es.take i++List.replicate (gc-i) e0)) 110)):=z8;clear z8;have GB:(es.take i++List.replicate (gc-i) e0).length=gc:=by simp[fw];omega
 have EK:∀ty,(Builtin.copy_ #[106,106] ty #[.slice (some ⟨w.heap.size,i*3,none⟩) k (gc-i),.slice (some ⟨gv,o*3,none⟩) vs.length c]).run Tryz.prog W1=.ok (goInt vs.length) (W1.setCells w.heap.size (i*3) (vs.flatMap aJ)):=fun ty=>by
  have uj:Nat.min vs.length k=vs.length:=Nat.min_eq_left (by omega);have:=lQ W1 ty w.heap.size (i*3) k (gc-i) ⟨gv,o*3,none⟩ vs.length c (vs.flatMap aJ) (by rw[aG,uj]) (Esl.cells R3 Mr MX) (fun j hj=>by rw[aG]at hj;rw[hN.cell,Array.getElem?_eq_getElem (by rw[fU,GB];omega)];rfl) (fun j hj=>hN.frozen _) (eG vs);rw[uj]at this;exact this
 obtain⟨W2,uz⟩:∃W2,W2=W1.setCells w.heap.size (i*3) (vs.flatMap aJ):=⟨_,rfl⟩;rw[←uz]at EK;have sc:IsC W2 w.heap.size (bW (spl (es.take i++List.replicate (gc-i) e0) i vs)) 110:=by
  have:=IsC.sets (vs.flatMap aJ) (cs:=(es.take i++List.replicate (gc-i) e0).flatMap aJ) (i*3) hN (by rw[aG,aG,GB];omega)
  rw[gN]at this;rw[uz];exact this
 have du:Frm (fun k=>k=w.heap.size) W1 W2:=by rw[uz];exact Frm.sets (S:=fun k=>k=w.heap.size) _ rfl _ _
 have pr:IsC W2 g (bW (es++junk)) 110:=yl.frm du (by omega);clear uz;have fe:(es.drop i).length=es.length-i:=List.length_drop;have Eb:(spl (es.take i++List.replicate (gc-i) e0) i vs).length=gc:=by rw[aCY _ _ _ (by rw[GB];omega)];exact GB
 obtain⟨p,hp⟩:∃p,p=i+vs.length:=⟨_,rfl⟩;have JN:∀W ty,IsC W g (bW (es++junk)) 110→IsC W w.heap.size (bW (spl (es.take i++List.replicate (gc-i) e0) i vs)) 110→(Builtin.copy_ #[106,106] ty #[.slice (some ⟨w.heap.size,p*3,none⟩) (es.length+vs.length-p) (gc-p),.slice (some ⟨g,i*3,none⟩) (es.length-i) (es.length+junk.length-i)]).run Tryz.prog W=.ok (goInt ((es.length-i:Nat):Int)) (W.setCells w.heap.size (p*3) ((es.drop i).flatMap aJ)):=fun W ty hW Il=>by
  have uj:Nat.min (es.length-i) (es.length+vs.length-p)=es.length-i:=Nat.min_eq_left (by omega);have:=lQ W ty w.heap.size (p*3) (es.length+vs.length-p) (gc-p) ⟨g,i*3,none⟩ (es.length-i) (es.length+junk.length-i) ((es.drop i).flatMap aJ) (by rw[aG,uj,fe])
   (Esl.cells (es:=es.drop i) hW (by rw[fe,lP];omega) (by rw[fe,List.drop_append_of_le_length (by omega),List.take_append_of_le_length (by rw[fe];exact nR _),List.take_of_length_le (by rw[fe];exact nR _)]))
   (fun j hj=>by rw[aG,fe]at hj;rw[Il.cell,Array.getElem?_eq_getElem (by rw[fU,Eb];omega)];rfl) (fun j hj=>Il.frozen _) (eG _)
  rw[uj]at this;exact this
 have Fr:=fun ty=>JN W2.drew ty pr.drew sc.drew;clear JN;have Wu:(i:Int)+(vs.length:Int)=(p:Int):=by omega
 have T0:IntKind.i64.wrap (p:Int)=(p:Int):=by rw[IntKind.wrap_i64];omega
 have n3:¬gc=p:=by omega
 have Q2:i≤es.length:=by omega
 have n4:(p:Int)≤(es.length:Int)+(vs.length:Int):=by omega
 have n5:p<gc:=by omega
 have Ty:p+(es.length-i)=es.length+vs.length:=by omega
 have HP:Hid (p=i+vs.length):=hp;have Um:Hid (p+(es.length-i)=es.length+vs.length):=Ty;clear hp Ty;have hz:((vs.length:Int) == 0)=false:=by rw[beq_eq_false_iff_ne];omega
 have av:((i:Int) ==(es.length:Int))=false:=by rw[beq_eq_false_iff_ne];omega
 have hgt:decide ((es.length:Int)+(junk.length:Int) <(es.length:Int)+(vs.length:Int))=true:=by rw[decide_eq_true_eq];omega
 have lm:(es.length:Int)+(vs.length:Int) -(i:Int)=(k:Int):=by omega
 have ao:(i:Int)≤(es.length:Int)+(junk.length:Int):=by omega
 have pd:es.length+vs.length-i=k:=HK.out.symm;have n1:¬es.length+junk.length=i:=by omega
 have n2:¬gc=i:=by omega
 have Np:Hid (es.length+vs.length-i=k):=pd;clear hk;go_enter Tryz.func120,Tryz.ntmps120;go_wp2_with (at_builtin;refine cH rfl _ _ _ _ rfl (.slice (some ⟨g,0,none⟩) i (es.length+junk.length)) (.int .i64 k) rfl rfl _ _ (q9 _) ?_);go_region_law (fail);go_wp2;go_ret;have e1:=HP.out;have e6:=Um.out;have bg:=IsC.sets ((es.drop i).flatMap aJ) (cs:=(spl (es.take i++List.replicate (gc-i) e0) i vs).flatMap aJ) (p*3) sc.drew (by rw[aG,aG,Eb,fe];omega);rw[gN]at bg;have AQ:spl (spl (es.take i++List.replicate (gc-i) e0) i vs) p (es.drop i)=es.take i++vs++es.drop i++List.replicate (gc -(es.length+vs.length)) e0:=by
  have tl:∀(A Y:List E3) (n:Nat),A.length=n→(A++Y).take n=A:=fun A Y n h=>by rw[←h];exact List.take_left
  have dl:∀(A Y:List E3) (n:Nat),A.length=n→(A++Y).drop n=Y:=fun A Y n h=>by rw[←h];exact List.drop_left
  have hA:spl (es.take i++List.replicate (gc-i) e0) i vs=es.take i++vs++List.replicate (gc-p) e0:=by
   unfold spl;rw[tl _ _ _ fw,←List.drop_drop,dl _ _ _ fw,List.drop_replicate];congr 2;omega
  have l2:(es.take i++vs).length=p:=by rw[lP,fw];omega
  rw[hA];unfold spl;rw[tl _ _ _ l2,←List.drop_drop,dl _ _ _ l2,List.drop_replicate,fe];congr 2;omega
 rw[AQ]at bg;refine⟨_,rfl,⟨some w.heap.size,List.replicate (gc -(es.length+vs.length)) e0,?_,fun g' q=>?_,by simp,?_⟩,?_⟩
 ·have hl:(es.take i++vs++es.drop i).length=es.length+vs.length:=by simp only[lP,fw,fe];omega
  rw[hl];simp[adr];omega
 ·cases q;exact⟨bg,.inr (nR _)⟩
 ·have hl:(es.take i++vs++es.drop i).length=es.length+vs.length:=by simp only[lP,fw,fe];omega
  rw[hl];simp;omega
 ·have Ch:Frm (fun k=>some g=some k) w W2.drew:=⟨du.os.trans iN.os,du.tape.trans iN.tape,du.output.trans iN.output,lT iN.size du.size,fun k hk hn=>(du.block k (lL hk iN.size) (by omega)).trans (iN.block k hk hn)⟩
  have bu:Frm (fun k=>k=w.heap.size) W2.drew (W2.drew.setCells w.heap.size (p*3) ((es.drop i).flatMap aJ)):=Frm.sets (S:=fun k=>k=w.heap.size) _ rfl _ _;exact⟨bu.os.trans Ch.os,bu.tape.trans Ch.tape,bu.output.trans Ch.output,lT Ch.size bu.size,fun k hk hn=>(bu.block k (lL hk Ch.size) (by omega)).trans (Ch.block k hk hn)⟩
