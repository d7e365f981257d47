import Derived.RangeFuncNested
import Derived.RangeFuncBound
import Derived.Test.YtaahkgkdpnnhhaaGreatHp7
set_option maxHeartbeats 9999999
set_option maxRecDepth 99999
set_option linter.all false
namespace Go.Proofs.YtaahkgkdpnnhhaaGreat
open Go.RowKit Fo
abbrev JE:=Int×Int×Option Nat
abbrev j0:JE:=(0,0,none)
def bY(e:JE):List Value:=[.int .i64 e.1,.int .i64 e.2.1,eQ e.2.2]
def iQ(l:List JE):Array Value:=(l.flatMap bY).toArray
theorem aLJ:(Tryz.prog.info? 187).map (fun i=>(i.zero,i.size,i.bytes))=some (some (.agg #[.int .i64 0,.int .i64 0,.pointer none]),3,24):=by kernel_rfl
theorem aME:∃i,Tryz.prog.info? 187=some i∧i.size=3∧i.bytes=24∧i.zero=some (.agg #[.int .i64 0,.int .i64 0,.pointer none]):=by
 have h:=aLJ;cases e:Tryz.prog.info? 187 with
 | none=>rw[e]at h;cases h
 | some i=>
  rw[e]at h;simp only[Option.map_some,sJ,Prod.mk.injEq]at h;exact⟨i,rfl,h.2.1,h.2.2,h.1⟩
theorem aEU(es junk vs:List JE)(h:vs.length≤junk.length):spl (es++junk) es.length vs=es++vs++junk.drop vs.length:=by
 unfold spl;rw[List.take_left,←List.drop_drop,List.drop_left]
theorem aMM{need old:Nat}(h:need≤1000000)(ho:old<need):Builtin.nextslicecap need old*24≤281474976710656:=growslice_fits (bytes:=24) (need:=need) (old:=old) (by omega) (by omega)
theorem cO(es:List JE):(es.flatMap bY).length=es.length*3:=by
 induction es with
 | nil=>rfl
 | cons e es ih=>simp only[List.flatMap_cons,lP,ih,List.length_cons];simp[bY];omega
theorem aEO(es:List JE):(iQ es).size=es.length*3:=by unfold iQ;rw[List.size_toArray,cO]
theorem rO(es:List JE){i:Nat}(hi:i<es.length):(es.flatMap bY)[i*3]?=some (.int .i64 (es.getD i j0).1)∧(es.flatMap bY)[i*3+1]?=some (.int .i64 (es.getD i j0).2.1)∧(es.flatMap bY)[i*3+2]?=some (eQ (es.getD i j0).2.2):=by
 induction es generalizing i with
 | nil=>simp at hi
 | cons e es ih=>
  cases i with
  | zero=>simp[bY]
  | succ i=>
   have:=ih (i:=i) (by simpa using hi)
   have e1:(e :: es).flatMap bY=bY e++es.flatMap bY:=List.flatMap_cons;have l3:(bY e).length=3:=rfl;rw[e1];rw[List.getElem?_append_right (by rw[l3];omega),List.getElem?_append_right (by rw[l3];omega),List.getElem?_append_right (by rw[l3];omega),l3];rw[show(i+1)*3-3=i*3 by omega,show(i+1)*3+1-3=i*3+1 by omega,show(i+1)*3+2-3=i*3+2 by omega];simpa using this
theorem aHO(es:List JE){i:Nat}(hi:i<es.length):(iQ es)[i*3]?=some (.int .i64 (es.getD i j0).1)∧(iQ es)[i*3+1]?=some (.int .i64 (es.getD i j0).2.1)∧(iQ es)[i*3+2]?=some (eQ (es.getD i j0).2.2):=by
 simpa [iQ] using rO es hi
theorem aDH(es:List JE):∀v∈es.flatMap bY,v.oneCell'=true:=fun v hv=>by
 obtain⟨e,_,he⟩:=List.mem_flatMap.1 hv;simp only[bY,List.mem_cons,List.not_mem_nil,or_false]at he;rcases he with rfl | rfl | rfl<;>rfl
theorem vQ(xs ys:List JE)(i:Nat):spl (xs.flatMap bY) (i*3) (ys.flatMap bY)=(spl xs i ys).flatMap bY:=by
 have tk:∀(l:List JE) (n:Nat),(l.flatMap bY).take (n*3)=(l.take n).flatMap bY:=by
  intro l;induction l with
  | nil=>intro n;simp
  | cons e l ih=>
   intro n;cases n with
   | zero=>simp
   | succ n=>
    have l3:(bY e).length=3:=rfl;rw[List.flatMap_cons,List.take_succ_cons,List.flatMap_cons,List.take_append,l3,List.take_of_length_le (by rw[l3];omega),show(n+1)*3-3=n*3 by omega,ih]
 have dr:∀(l:List JE) (n:Nat),(l.flatMap bY).drop (n*3)=(l.drop n).flatMap bY:=by
  intro l;induction l with
  | nil=>intro n;simp
  | cons e l ih=>
   intro n;cases n with
   | zero=>simp
   | succ n=>
    have l3:(bY e).length=3:=rfl;rw[List.flatMap_cons,List.drop_succ_cons,List.drop_append,l3,List.drop_of_length_le (by rw[l3];omega),show(n+1)*3-3=n*3 by omega,ih,List.nil_append]
 unfold spl;rw[tk,cO,←Nat.add_mul,dr,List.flatMap_append,List.flatMap_append]
def Jsl(w:World)(v:Value)(es:List JE):Prop:=
 (v=.slice none 0 0∧es=[])∨∃g o cap xs,v=.slice (some ⟨g,o*3,none⟩) es.length cap∧IsC w g (iQ xs) 187∧o+es.length≤xs.length∧(xs.drop o).take es.length=es
theorem Jsl.cells{w:World}{g o:Nat}{xs es:List JE}(h:IsC w g (iQ xs) 187)(hl:o+es.length≤xs.length)(he:(xs.drop o).take es.length=es):∀j v,(es.flatMap bY)[j]?=some v→w.cell? ((⟨g,o*3,none⟩:Addr).add j)=some v:=fun j v hj=>by
 have ub:(⟨g,o*3,none⟩:Addr).add j=⟨g,o*3+j,none⟩:=by unfold Addr.add;split<;>simp_all
 rw[ub,h.cell];have e1:spl (xs.flatMap bY) (o*3) (es.flatMap bY)=xs.flatMap bY:=by
  rw[vQ];congr 1;unfold spl;rw[←he,List.length_take,List.length_drop,List.append_assoc];rw[show min es.length (xs.length-o)=es.length by omega];rw[←List.drop_drop,List.take_append_drop,List.take_append_drop]
 have xx:j <(es.flatMap bY).length:=(List.getElem?_eq_some_iff.1 hj).1;have:(iQ xs)[o*3+j]?=(xs.flatMap bY)[o*3+j]?:=by simp[iQ]
 rw[this,←e1];unfold spl;have ph:((xs.flatMap bY).take (o*3)).length=o*3:=by
  rw[List.length_take,cO];omega
 rw[List.append_assoc,List.getElem?_append_right (by omega),ph,show o*3+j-o*3=j by omega,List.getElem?_append_left xx];exact hj
theorem aMI(m:Nat):Builtin.zeroCells #[.int .i64 0,.int .i64 0,.pointer none] m=((List.replicate m j0).flatMap bY).toArray:=by
 apply Array.toList_inj.1
 simp only[Builtin.zeroCells,List.size_toArray,List.length_cons,List.length_nil,Array.toList_map,Array.toList_range];induction m with
 | zero=>rfl
 | succ m ih=>
  have hr:List.range ((m+1)*3)=List.range (m*3)++[m*3,m*3+1,m*3+2]:=by
   rw[show(m+1)*3=m*3+1+1+1 by omega,List.range_succ,List.range_succ,List.range_succ];simp
  have hp:List.replicate (m+1) j0=List.replicate m j0++[j0]:=List.replicate_succ';rw[hp,List.flatMap_append,←ih];simp only[Nat.zero_add,Nat.reduceAdd];rw[hr,List.map_append];congr 1;simp only[List.map_cons,List.map_nil,show m*3 % 3=0 by omega,show(m*3+1) % 3=1 by omega,show(m*3+2) % 3=2 by omega];rfl
theorem aFO(a:Option Nat)(es junk vs:List JE)(v:Value)(W:World)(ha:∀g,a=some g→IsC W g (iQ (es++junk)) 187)(hn:a=none→es=[]∧junk=[])(hv:Jsl W v vs)(Ah:es.length+vs.length≤1000000)(hm:es.length+junk.length≤maxLen):
  ∃u W' a' junk',(∀ty,(Builtin.append_ #[69,69] ty #[.slice (adr a) es.length (es.length+junk.length),v]).run Tryz.prog W=.ok u W')∧u=.slice (adr a') (es.length+vs.length) (es.length+vs.length+junk'.length)∧
   (∀g,a'=some g→IsC W' g (iQ (es++vs++junk')) 187∧(a=some g∨W.heap.size≤g))∧(a'=none→es=[]∧vs=[]∧junk'=[])∧es.length+vs.length+junk'.length≤maxLen∧Frm (fun k=>a=some k) W W':=by
 obtain⟨i0,hi,h3,Ai,hz⟩:=aME;have dz:Src Tryz.prog i0.size 69 v vs.length (vs.flatMap bY) W:=by
  rcases hv with⟨rfl,rfl⟩ | ⟨gv,o,cap,xs,rfl,hx,hl,he⟩
  ·exact Src.ofNil W Tryz.underlying69 0
  ·exact Src.ofSlice W Tryz.underlying69 ⟨gv,o*3,none⟩ vs.length cap _ (by rw[cO,h3]) (Jsl.cells hx hl he) (aDH vs)
 by_cases jt:vs.length≤junk.length
 ·cases a with
  | none=>
   obtain⟨rfl,rfl⟩:=hn rfl;have GQ:vs=[]:=List.length_eq_zero_iff.1 (by simpa using jt);subst GQ;refine⟨_,W,none,[],fun ty=>?_,rfl,fun g q=>(by cases q),fun _=>⟨rfl,rfl,rfl⟩,by simp,Frm.refl _ _⟩;have:=run_append_nothing (P:=Tryz.prog) W 69 69 ty 187 i0 Tryz.underlying69 hi none 0 0 (nR _) v dz;exact this
  | some g=>
   have hg:=ha g rfl;refine⟨_,_,some g,junk.drop vs.length,fun ty=>run_append_room_src (P:=Tryz.prog) W 69 69 ty 187 i0 Tryz.underlying69 hi g 0 es.length (es.length+junk.length) v _ _ dz (by omega)
    (fun k hk=>by rw[cO]at hk;rw[hg.cell,h3,Array.getElem?_eq_getElem (by rw[aEO,lP];omega)];rfl) (fun k hk=>hg.frozen _),?_,fun g' q=>?_,fun q=>(by cases q),?_,?_⟩
   ·simp[adr];omega
   ·cases q
    refine⟨?_,.inl rfl⟩;have:=IsC.sets (vs.flatMap bY) (cs:=(es++junk).flatMap bY) (es.length*3) hg (by rw[cO,cO,lP];omega);rw[vQ,aEU _ _ _ jt]at this;rw[h3,Nat.zero_add];exact this
   ·simp;omega
   ·exact Frm.sets (S:=fun k=>some g=some k) _ rfl _ _
 ·have sq:(Builtin.firstCells i0.size es.length (.slice (adr a) es.length (es.length+junk.length))).run Tryz.prog W.drew=.ok (es.flatMap bY).toArray W.drew:=by
   cases a with
   | none=>
    obtain⟨rfl,rfl⟩:=hn rfl;exact run_firstCells_none (P:=Tryz.prog) W.drew i0.size 0 0 0
   | some g=>
    have hg:=ha g rfl;exact run_firstCells_some (P:=Tryz.prog) W.drew i0.size es.length ⟨g,0,none⟩ es.length _ (es.flatMap bY) (by rw[cO,h3]) (by
     have:=Jsl.cells (w:=W.drew) (g:=g) (o:=0) (xs:=es++junk) (es:=es) hg.drew (by rw[lP];omega) (by simp)
     rw[Nat.zero_mul]at this;exact this)
  have hr:=fun ty=>run_append_grow_src (P:=Tryz.prog) W 69 69 ty 187 i0 _ Tryz.underlying69 hi hz (adr a) es.length (es.length+junk.length) (es.flatMap bY) sq v vs.length (vs.flatMap bY) dz (by omega) (by omega) (by rw[Ai];exact aMM (by omega) (by omega));have xr:=grownCap_ge W (es.length+vs.length) (es.length+junk.length) 187;have ph:=grownCap_le_maxLen W (es.length+vs.length) (es.length+junk.length) 187 (by simp[maxLen];omega);generalize grownCap W (es.length+vs.length) (es.length+junk.length) 187=gc at *;refine⟨_,_,some W.heap.size,List.replicate (gc -(es.length+vs.length)) j0,hr,?_,fun g q=>?_,fun q=>(by cases q),?_,?_⟩
  ·simp[adr];omega
  ·cases q
   refine⟨?_,.inr (nR _)⟩;have au:(Value.agg #[.int .i64 0,.int .i64 0,.pointer none]).cells=#[.int .i64 0,.int .i64 0,.pointer none]:=by kernel_rfl
   have:=IsC.new W.drew ((es.flatMap bY++vs.flatMap bY).toArray++Builtin.zeroCells (Value.agg #[.int .i64 0,.int .i64 0,.pointer none]).cells (gc -(es.length+vs.length))) 187
   have e:iQ (es++vs++List.replicate (gc -(es.length+vs.length)) j0)=(es.flatMap bY++vs.flatMap bY).toArray++Builtin.zeroCells (Value.agg #[.int .i64 0,.int .i64 0,.pointer none]).cells (gc -(es.length+vs.length)):=by
    rw[au,aMI];simp[iQ]
   rw[e];exact this
  ·simp;omega
  ·exact(Frm.drew _ W).trans (Frm.alloc _ _ _)
def SvS(P m c n b:Nat)(cu0:Int)(x:Option Nat)(jv:Value)(w:World):Prop:=
 w.cell? ⟨P,3,none⟩=some (.map (some m))∧w.cell? ⟨P,4,none⟩=some (.slice (some ⟨c,0,none⟩) n n)∧w.cell? ⟨P,7,none⟩=some jv∧w.cell? ⟨c,b,none⟩=some (.int .i64 cu0)∧
  (Instr.lookup 68 (.map (some m)) (.int .i64 b) false).run Tryz.prog w=.ok (eQ x) w
theorem aAK(w:World):Calls Tryz.prog 134 #[.pointer none] w fun e w'=>e=.returned (.pointer none)∧w'=w:=by
 go_enter Tryz.func134,Tryz.ntmps134
 go_wp2
 go_ret
 exact⟨rfl,rfl⟩
structure aKV(w w':World)(x x':Option Nat)(d:Nd):Prop where
 below:Bl w w'
 none:x=none→x'=none
 some:∀q,x=some q→∃q' a' j',x'=some q'∧w.heap.size≤q'∧(∀g,a'=some g→w.heap.size≤g)∧aM w' q' d a' j'
theorem yC(x:Option Nat)(d:Nd)(w:World)(hx:∀q,x=some q→∃a junk,aM w q d a junk)(ft:d.2.length≤10):
  Calls Tryz.prog 134 #[eQ x] w fun e w'=>∃x',e=.returned (eQ x')∧aKV w w' x x' d:=by
 cases x with
 | none=>
  refine(aAK w).mono ?_;rintro e w' ⟨rfl,rfl⟩;exact⟨none,rfl,bQ _ _,fun _=>rfl,fun q e=>by cases e⟩
 | some q=>
  obtain⟨a,junk,h⟩:=hx q rfl;refine(mE q d a junk w h ft).mono ?_;rintro e w' ⟨u,rfl,⟨q',a',j',rfl,h1,h2,h3⟩,hB⟩;exact⟨some q',rfl,hB,fun e=>(by cases e),fun q2 e=>⟨q',a',j',rfl,h1,h2,h3⟩⟩
theorem aIR(W:World)(x y:Int)(p:Option Addr):(Instr.build 187 #[(0,.int .i64 x),(1,.int .i64 y),(2,.pointer p)]).run Tryz.prog W=.ok (.agg #[.int .i64 x,.int .i64 y,.pointer p]) W:=by kernel_rfl
theorem aKB(W:World)(x y:Int)(p:Option Addr):(Instr.buildSlice 69 1 #[(0,.agg #[.int .i64 x,.int .i64 y,.pointer p])]).run Tryz.prog W=.ok (.slice (some ⟨W.heap.size,0,none⟩) 1 1) (W.alloc (.cells #[.int .i64 x,.int .i64 y,.pointer p] 187)):=by kernel_rfl
theorem kE{P:Program}{w:World}{o:Oper}{a:Act}{K:Act→World→Prop}{Q:Exit→Act→World→Prop}(s x:Operand)(t tn:TypeId)
  (ho:o.op=.call {callee:=.builtin .append,args:=#[s,x],argTypes:=#[t,tn]}) (vs vx:Value) (hs:a.eval s=vs) (hx:a.eval x=vx)
  (v':Value) (w':World) (hr:(Builtin.append_ #[t,tn] o.type #[vs,vx]).run P w=.ok v' w') (h:K (a.put o.dst v') w'):Oper.wp P o a w K Q:=by
 unfold Oper.wp execOp;simp only[ho,resolve,invoke,builtin,Sem.run_bind,Sem.run_pure,Result.andThen_ok,List.map_toArray,List.map_cons,List.map_nil,hs,hx,hr];exact h
theorem aHT(P m c n b:Nat)(rs cm tv:Value)(nx gn:Int)(cur:List Int)(φ:Nat→Option Nat)(ja:Option Nat)(js jj:List JE)(w:World)
  (hP:IsC w P #[rs,.int .i64 nx,.int .i64 gn,.map (some m),.slice (some ⟨c,0,none⟩) n n,cm,tv,.slice (adr ja) js.length (js.length+jj.length)] 71) (hc:IsC w c (dG cur) 2) (hn:cur.length=n) (hb:b<n) (Bj:n≤512) (hm:dS w m φ)
  (d:Nd) (hx:∀q,φ b=some q→∃a junk,aM w q d a junk) (ft:d.2.length≤10) (hj:∀g,ja=some g→IsC w g (iQ (js++jj)) 187∧g≠P∧g≠m∧g≠c) (Q9:ja=none→js=[]∧jj=[]) (WX:js.length+jj.length≤maxLen) (xx:js.length≤900000):
  Calls Tryz.prog 132 #[.pointer (some ⟨P,0,none⟩),.int .i64 b] w fun e w'=>e=.returned (.tuple #[])∧∃x' ja' jj',IsC w' P #[rs,.int .i64 nx,.int .i64 gn,.map (some m),.slice (some ⟨c,0,none⟩) n n,cm,tv,.slice (adr ja') (js.length+1) (js.length+1+jj'.length)] 71∧
   (∀g,ja'=some g→IsC w' g (iQ (js++[((b:Int),cur.getD b 0,x')]++jj')) 187∧(ja=some g∨w.heap.size≤g))∧ja'≠none∧js.length+1+jj'.length≤maxLen∧(∃w1,aKV w w1 (φ b) x' d∧Frm (fun k=>k=P∨ja=some k) w1 w')∧Frm (fun k=>k=P∨ja=some k) w w':=by
 have pp:(dG cur)[b]?=some (.int .i64 (cur.getD b 0)):=by
  simp[dG,gD,show b<cur.length by omega]
 have gk:=hm.lookup b (by omega);have Ju:∀W:World,W.heap[m]?=w.heap[m]?→(Instr.lookup 68 (.map (some m)) (.int .i64 b) false).run Tryz.prog W=.ok (eQ (φ b)) W:=fun W hW=>(hm.of hW).lookup b (by omega);generalize cur.getD b 0=cu0 at *;generalize φ b=x at *;have DK:=hP.lt;have au:=hc.lt;have CV:=hm.lt;have hS:∀W:World,(∀k,k<w.heap.size→W.heap[k]?=w.heap[k]?)→SvS P m c n b cu0 x (.slice (adr ja) js.length (js.length+jj.length)) W:=fun W hW=>by
  have h1:IsC W P _ _:=hP.of (hW P DK);have h2:IsC W c _ _:=hc.of (hW c au);exact⟨h1.c rfl,h1.c rfl,h1.c rfl,by rw[h2.cell];exact pp,Ju W (hW m CV)⟩
 have HS:Hid (∀W:World,(∀k,k<w.heap.size→W.heap[k]?=w.heap[k]?)→SvS P m c n b cu0 x (.slice (adr ja) js.length (js.length+jj.length)) W):=hS;have ak:SvS P m c n b cu0 x (.slice (adr ja) js.length (js.length+jj.length)) w.drew:=hS w.drew (fun _ _=>rfl);have CR:(b:Int) <(n:Int):=by omega
 have so:b<n:=hb;have HC:Hid (cur.length=n):=hn;have HB:Hid ((dG cur)[b]?=some (.int .i64 cu0)):=pp;have HM:Hid (∀W:World,W.heap[m]?=w.heap[m]?→(Instr.lookup 68 (.map (some m)) (.int .i64 b) false).run Tryz.prog W=.ok (eQ x) W):=Ju;have Gm:=aIR;have lk:=aKB;clear hS gk Ju pp hn;go_enter Tryz.func132,Tryz.ntmps132;refine aZ (SvS P m c n b cu0 x (.slice (adr ja) js.length (js.length+jj.length))) 25 (by kernel_rfl) ?_;refine tJ 0 4 (.pointer (some ⟨P,0,none⟩)) rfl ak ?_;simp only[Act.put,sB,sZ,sS];refine tJ 1 5 (.pointer (some ⟨P,0,none⟩)) rfl ak ?_;simp only[Act.put,sB,sZ,sS];refine tJ 2 6 (.pointer (some ⟨P,0,none⟩)) rfl ak ?_;simp only[Act.put,sB,sZ,sS];refine tJ 3 7 (.pointer (some ⟨P,7,none⟩)) rfl ak ?_;simp only[Act.put,sB,sZ,sS];refine tJ 4 8 (.slice (adr ja) js.length (js.length+jj.length)) rfl ak ?_;simp only[Act.put,sB,sZ,sS];refine tJ 5 9 (.int .i64 b) rfl ak ?_;simp only[Act.put,sB,sZ,sS];refine tJ 6 10 (.pointer (some ⟨P,0,none⟩)) rfl ak ?_;simp only[Act.put,sB,sZ,sS];refine tJ 7 11 (.pointer (some ⟨P,0,none⟩)) rfl ak ?_;simp only[Act.put,sB,sZ,sS];refine tJ 8 12 (.pointer (some ⟨P,4,none⟩)) rfl ak ?_;simp only[Act.put,sB,sZ,sS];refine tJ 9 13 (.slice (some ⟨c,0,none⟩) n n) rfl ak ?_;simp only[Act.put,sB,sZ,sS];refine tJ 10 14 (.int .i64 b) rfl ak ?_;simp only[Act.put,sB,sZ,sS];refine tJ 11 15 (.pointer (some ⟨c,b,none⟩)) rfl ak ?_;simp only[Act.put,sB,sZ,sS];refine tJ 12 16 (.int .i64 cu0) rfl ak ?_;simp only[Act.put,sB,sZ,sS];refine tJ 13 17 (.pointer (some ⟨P,0,none⟩)) rfl ak ?_;simp only[Act.put,sB,sZ,sS];refine tJ 14 18 (.pointer (some ⟨P,0,none⟩)) rfl ak ?_;simp only[Act.put,sB,sZ,sS];refine tJ 15 19 (.pointer (some ⟨P,3,none⟩)) rfl ak ?_;simp only[Act.put,sB,sZ,sS];refine tJ 16 20 (.map (some m)) rfl ak ?_;simp only[Act.put,sB,sZ,sS];refine tJ 17 21 (.int .i64 b) rfl ak ?_;simp only[Act.put,sB,sZ,sS];refine tJ 18 22 (eQ x) rfl ak ?_;simp only[Act.put,sB,sZ,sS];refine oE 19 rfl fun K2 ae=>?_;go_simp;refine(yC x d _ (fun q e=>by obtain⟨a,j,h⟩:=hx q e;exact⟨a,j,h.below (bQ _ _).drew⟩) ft).mono ?_;rintro e w1 ⟨x',rfl,OA⟩;have d9:Bl w w1:=(bQ w.heap.size w).drew.trans OA.below;refine ae _ _ (fun _=>HS.out w1 fun k hk=>d9.block k hk) ?_;clear ae K2 ak;have qt:=HS.out w1 fun k hk=>d9.block k hk;have PX:aKV w w1 x x' d:=⟨d9,OA.none,OA.some⟩;clear OA;obtain⟨p',FB⟩:∃p',eQ x'=.pointer p':=⟨_,rfl⟩;rw[FB];refine oE 20 rfl fun K2 ae=>?_;go_simp;refine ae _ _ (fun _=>qt) ?_;clear ae K2;refine oE 21 rfl fun K2 ae=>?_;go_simp;obtain⟨Y,HY⟩:=exH (w1.heap.size);obtain⟨W2,DY⟩:=exH (w1.alloc (.cells #[.int .i64 b,.int .i64 cu0,.pointer p'] 187));rw[←DY.out,←HY.out];have sc:IsC W2 Y (iQ [((b:Int),cu0,x')]) 187:=by rw[DY.out,HY.out,←FB];exact IsC.new _ _ _
 have cx:Bl w1 W2:=by rw[DY.out];exact(bQ w1.heap.size w1).alloc (nR _) _
 have BF:=d9.trans (cx.mono d9.size);have hY:w.heap.size≤Y:=by rw[HY.out];exact d9.size
 clear DY;have gp:=HS.out W2 fun k hk=>BF.block k hk;refine ae _ _ (fun _=>gp) ?_;clear ae K2 qt;obtain⟨u,W3,ja',jj',hr,hu,h1,h2,h3,h4⟩:=aFO ja js jj [((b:Int),cu0,x')] (.slice (some ⟨Y,0,none⟩) 1 1) W2 (fun g e=>(hj g e).1.of (BF.block g (hj g e).1.lt)) Q9 (.inr ⟨Y,0,1,[((b:Int),cu0,x')],by simp,sc,by simp,by simp⟩) (by simp;omega) WX;simp only[List.length_cons,List.length_nil,Nat.zero_add]at hu h1 h3;refine oE 22 rfl fun K2 ae=>?_;refine kE (.tmp 8) (.tmp 25) _ _ (by rfl) (.slice (adr ja) js.length (js.length+jj.length)) (.slice (some ⟨Y,0,none⟩) 1 1) (by rfl) (by rfl) u W3 (hr _) ?_;have ce:∀k,k<w.heap.size→ja≠some k→W3.heap[k]?=w.heap[k]?:=fun k hk hn=>by
  rw[h4.block k (lL hk BF.size) hn,BF.block k hk]
 have To:ja≠some P:=fun e=>(hj P e).2.1 rfl;have Q8:ja≠some m:=fun e=>(hj m e).2.2.1 rfl;have WW:ja≠some c:=fun e=>(hj c e).2.2.2 rfl;have Fe:IsC W3 P _ _:=hP.of (ce P DK To);have Kj:IsC W3 c _ _:=hc.of (ce c au WW);have Wg:=HM.out W3 (ce m CV Q8);have qu:SvS P m c n b cu0 x (.slice (adr ja) js.length (js.length+jj.length)) W3:=⟨Fe.c rfl,Fe.c rfl,Fe.c rfl,by rw[Kj.cell];exact HB.out,Wg⟩;refine ae _ _ (fun _=>qu) ?_;clear ae K2 gp;subst hu;simp only[Act.put,sB,sZ,sS];have Gt:=Fe.frozen 7;have X9:W3.cell? ⟨P,7,none⟩=some (.slice (adr ja) js.length (js.length+jj.length)):=Fe.c rfl;refine oE 23 rfl fun K2 ae=>?_;go_simp;refine ae _ _ (fun _=>qu) ?_;clear ae K2;refine oE 24 rfl fun K2 ae=>?_;go_simp;refine ae _ _ (fun _=>qu) ?_;clear ae K2;refine oE 25 rfl fun K2 ae=>?_;go_simp;refine ae _ _ (fun q=>absurd rfl q) ?_;clear ae K2;refine aS (by kernel_rfl) ?_ _;go_wp2;go_end0;have av:ja'≠none:=fun e=>by have:=(h2 e).2.1;simp at this
 have bg:=Fe.set 7 (.slice (adr ja') (js.length+1) (js.length+1+jj'.length));have bu:Frm (fun k=>k=P∨ja=some k) w W3:=(Frm.of_below BF).next h4 fun x _ h=>.inr h;have PZ:Frm (fun k=>k=P∨ja=some k) w1 W3:=(Frm.of_below cx).next h4 fun x _ h=>.inr h;have Q6:∀g,ja'=some g→g≠P:=fun g e e'=>by
  subst e';rcases(h1 g e).2 with h | h
  ·exact To h
  ·have:=BF.size;omega
 refine⟨rfl,x',ja',jj',bg,fun g e=>⟨((h1 g e).1).set_ne _ (Q6 g e),?_⟩,av,h3,⟨w1,PX,PZ.put _ _ fun _=>.inl rfl⟩,bu.put _ _ fun _=>.inl rfl⟩;rcases(h1 g e).2 with h | h
 ·exact .inl h
 ·exact .inr (lT BF.size h)
def aT(t:Int×Int):List Value:=[.int .i64 t.1,.int .i64 t.2]
def cT(l:List (Int×Int)):Array Value:=(l.flatMap aT).toArray
theorem bL(l:List (Int×Int)):(l.flatMap aT).length=l.length*2:=by
 induction l with
 | nil=>rfl
 | cons e es ih=>simp only[List.flatMap_cons,lP,ih,List.length_cons];simp[aT];omega
theorem lB(l:List (Int×Int)){i:Nat}(hi:i<l.length):(cT l)[i*2]?=some (.int .i64 (l.getD i (0,0)).1)∧(cT l)[i*2+1]?=some (.int .i64 (l.getD i (0,0)).2):=by
 unfold cT;rw[List.getElem?_toArray,List.getElem?_toArray];induction l generalizing i with
 | nil=>simp at hi
 | cons e es ih=>
  cases i with
  | zero=>simp[aT]
  | succ i=>
   have:=ih (i:=i) (by simpa using hi)
   have e1:(e :: es).flatMap aT=aT e++es.flatMap aT:=List.flatMap_cons;have l3:(aT e).length=2:=rfl;rw[e1];rw[List.getElem?_append_right (by rw[l3];omega),List.getElem?_append_right (by rw[l3];omega),l3];rw[show(i+1)*2-2=i*2 by omega,show(i+1)*2+1-2=i*2+1 by omega];simpa using this
def cE(b:Nat):Nat:=10+4*b
def cB(b:Nat):Nat:=11+4*b
def jW(i:Nat):Nat:=12+4*i
def jX(i:Nat):Nat:=13+4*i
def isJ(r:Nat):Prop:=r=6∨(12≤r∧r % 4<2)
def isN(r:Nat):Prop:=r≠0∧¬isJ r
structure Adr where
 ra:Nat
 rj:List (Int×Int)
 m:Nat
 c:Nat
 d:Nat
 dj:List Value
 tv:Value
 φ:Nat→Option Nat
 α:Nat→Option Nat
def jH(c:List Int)(dj:List Value):Array Value:=(c.map (Value.int .i64)++dj).toArray
def dE(A:Adr)(f:fZ)(jv:Value):Array Value:=#[.slice (some ⟨A.ra,0,none⟩) f.roots.length (f.roots.length+A.rj.length),.int .i64 f.next,.int .i64 f.gen,.map (some A.m),.slice (some ⟨A.c,0,none⟩) f.cur.length f.cur.length,.slice (some ⟨A.d,0,none⟩) f.com.length (f.com.length+A.dj.length),A.tv,jv]
def Nod(w:World)(ρ:Nat→Nat)(A:Adr)(b:Nat)(d:Nd):Prop:=
 ∃q,A.φ b=some q∧ρ q=cE b∧(∀g,A.α b=some g→ρ g=cB b)∧∃junk,aM w q d (A.α b) junk
structure Rp(w:World)(ρ:Nat→Nat)(P:Nat)(A:Adr)(f:fZ)(jv:Value):Prop where
 own:∀k,ρ k≠0→k<w.heap.size
 hP:IsC w P (dE A f jv) 71
 rP:ρ P=1
 hr:IsC w A.ra (cT (f.roots++A.rj)) 77
 rr:ρ A.ra=2
 hm:dS w A.m A.φ
 rm:ρ A.m=3
 hc:IsC w A.c (dG f.cur) 2
 rc:ρ A.c=4
 hd:IsC w A.d (jH f.com A.dj) 2
 rd:ρ A.d=5
 nd:∀b d,f.nodes b=some d→Nod w ρ A b d
 no:∀b,f.nodes b=none→A.φ b=none
 rs:f.roots.length+A.rj.length≤maxLen
 ds:f.com.length+A.dj.length≤maxLen
structure Kp(S:Nat→Prop)(w:World)(ρ:Nat→Nat)(w':World)(ρ':Nat→Nat):Prop where
 frm:Frm S w w'
 rol:∀x,x<w.heap.size→isN (ρ x)→ρ' x=ρ x
 own:∀x,ρ' x≠0→x<w'.heap.size
theorem uZ:isN 1:=by unfold isN isJ;omega
theorem aCP:isN 2:=by unfold isN isJ;omega
theorem vA:isN 3:=by unfold isN isJ;omega
theorem aCQ:isN 4:=by unfold isN isJ;omega
theorem aGP:isN 5:=by unfold isN isJ;omega
theorem wP(b:Nat):isN (cE b):=by unfold isN isJ cE;omega
theorem wQ(b:Nat):isN (cB b):=by unfold isN isJ cB;omega
theorem aGO:isJ 6:=by unfold isJ;omega
theorem qR(i:Nat):isJ (jW i):=by unfold isJ jW;omega
theorem qS(i:Nat):isJ (jX i):=by unfold isJ jX;omega
variable {w w' : World} {ρ ρ' : Nat → Nat} {P : Nat} {A : Adr} {f : fZ} {jv : Value} {S : Nat → Prop}
theorem Nod.kp(k:Kp S w ρ w' ρ'){b:Nat}{d:Nd}(h:Nod w ρ A b d)(hb:∀x,ρ x=cE b∨ρ x=cB b→¬S x)(ho:∀x,ρ x≠0→x<w.heap.size):Nod w' ρ' A b d:=by
 obtain⟨q,h1,h2,h3,j,h4⟩:=h;have hq:q<w.heap.size:=h4.box.lt;refine⟨q,h1,by rw[k.rol q hq (h2▸wP b),h2],fun g e=>?_,j,h4.frm k.frm (hb q (.inl h2)) fun g e=>hb g (.inr (h3 g e))⟩;have:=h3 g e;rw[k.rol g (ho g (by rw[this];unfold cB;omega)) (this▸wQ b),this]
theorem Rp.gen(h:Rp w ρ P A f jv)(k:Kp S w ρ w' ρ'){A':Adr}{f':fZ}{jv':Value}
  (hP:(¬S P∧dE A' f' jv'=dE A f jv)∨IsC w' P (dE A' f' jv') 71)
  (hr:(¬S A.ra∧A'.ra=A.ra∧f'.roots++A'.rj=f.roots++A.rj)∨(IsC w' A'.ra (cT (f'.roots++A'.rj)) 77∧ρ' A'.ra=2))
  (hm:(¬S A.m∧A'.φ=A.φ)∨dS w' A.m A'.φ) (em:A'.m=A.m)
  (hc:(¬S A.c∧f'.cur=f.cur)∨IsC w' A.c (dG f'.cur) 2) (ec:A'.c=A.c)
  (hd:(¬S A.d∧A'.d=A.d∧jH f'.com A'.dj=jH f.com A.dj)∨(IsC w' A'.d (jH f'.com A'.dj) 2∧ρ' A'.d=5))
  (nd:∀b d,f'.nodes b=some d→(f.nodes b=some d∧A'.φ b=A.φ b∧A'.α b=A.α b∧∀x,ρ x=cE b∨ρ x=cB b→¬S x)∨Nod w' ρ' A' b d)
  (no:∀b,f'.nodes b=none→A'.φ b=none) (rs:f'.roots.length+A'.rj.length≤maxLen) (ds:f'.com.length+A'.dj.length≤maxLen):Rp w' ρ' P A' f' jv':=by
 have rol:∀{x r},ρ x=r→isN r→ρ' x=r:=fun {x r} e hr=>by
  rw[k.rol x (h.own x (by rw[e];exact hr.1)) (e▸hr),e]
 have ob:=h.own;refine⟨k.own,?_,rol h.rP uZ,?_,?_,?_,by rw[em];exact rol h.rm vA,?_,by rw[ec];exact rol h.rc aCQ,?_,?_,?_,no,rs,ds⟩
 ·rcases hP with⟨h1,h2⟩ | h1
  ·rw[h2];exact h.hP.frm k.frm h1
  ·exact h1
 ·rcases hr with⟨h1,h2,h3⟩ | h1
  ·rw[h2,h3];exact h.hr.frm k.frm h1
  ·exact h1.1
 ·rcases hr with⟨h1,h2,h3⟩ | h1
  ·rw[h2];exact rol h.rr aCP
  ·exact h1.2
 ·rcases hm with⟨h1,h2⟩ | h1
  ·rw[em,h2];exact h.hm.of (k.frm.block _ h.hm.lt h1)
  ·rw[em];exact h1
 ·rcases hc with⟨h1,h2⟩ | h1
  ·rw[ec,h2];exact h.hc.frm k.frm h1
  ·rw[ec];exact h1
 ·rcases hd with⟨h1,h2,h3⟩ | h1
  ·rw[h2,h3];exact h.hd.frm k.frm h1
  ·exact h1.1
 ·rcases hd with⟨h1,h2,h3⟩ | h1
  ·rw[h2];exact rol h.rd aGP
  ·exact h1.2
 ·intro b d hb
  rcases nd b d hb with⟨h1,h2,h3,h4⟩ | h1
  ·have:=(h.nd b d h1).kp k h4 ob
   unfold Nod at *;rw[h2,h3];exact this
  ·exact h1
theorem Rp.frm(h:Rp w ρ P A f jv)(k:Kp S w ρ w' ρ')(hS:∀x,x<w.heap.size→S x→¬isN (ρ x)):Rp w' ρ' P A f jv:=by
 have no:∀{x r},ρ x=r→isN r→¬S x:=fun {x r} e hr hs=>hS x (h.own x (by rw[e];exact hr.1)) hs (e▸hr);refine h.gen k (.inl ⟨no h.rP uZ,rfl⟩) (.inl ⟨no h.rr aCP,rfl,rfl⟩) (.inl ⟨no h.rm vA,rfl⟩) rfl (.inl ⟨no h.rc aCQ,rfl⟩) rfl (.inl ⟨no h.rd aGP,rfl,rfl⟩) (fun b d hb=>.inl ⟨hb,rfl,rfl,fun x hx=>?_⟩) h.no h.rs h.ds;rcases hx with e | e
 ·exact no e (wP b)
 ·exact no e (wQ b)
structure JrL(w:World)(ρ:Nat→Nat)(ja:Option Nat)(jp jj:List JE)(J:List aQ):Prop where
 arr:∀g,ja=some g→IsC w g (iQ (jp++jj)) 187∧ρ g=6
 nil:ja=none→jp=[]∧jj=[]
 small:jp.length+jj.length≤maxLen
 len:jp.length=J.length
 row:∀i,i<J.length→(jp.getD i j0).1=((J.getD i jr0).1:Int)∧(jp.getD i j0).2.1=(J.getD i jr0).2.1∧
  (match (J.getD i jr0).2.2 with
  | none=>(jp.getD i j0).2.2=none
  | some d=>∃q a junk,(jp.getD i j0).2.2=some q∧ρ q=jW i∧(∀g,a=some g→ρ g=jX i)∧aM w q d a junk)
theorem JrL.start(w:World)(ρ:Nat→Nat):JrL w ρ none [] [] []:=⟨fun g e=>(by cases e),fun _=>⟨rfl,rfl⟩,by simp[maxLen],rfl,fun i hi=>(by simp at hi)⟩
theorem JrL.frm{ja:Option Nat}{jp jj:List JE}{J:List aQ}(h:JrL w ρ ja jp jj J)(k:Frm S w w')(ho:∀x,ρ x≠0→x<w.heap.size)(hS:∀x,S x→¬isJ (ρ x))(hρ:∀x,x<w.heap.size→isJ (ρ x)→ρ' x=ρ x):JrL w' ρ' ja jp jj J:=by
 have no:∀{x r},ρ x=r→isJ r→¬S x:=fun {x r} e hr hs=>hS x hs (e▸hr);have rol:∀{x r},ρ x=r→isJ r→ρ' x=r:=fun {x r} e hr=>by
  rw[hρ x (ho x (by rw[e];intro q;subst q;unfold isJ at hr;omega)) (e▸hr),e]
 refine⟨fun g e=>?_,h.nil,h.small,h.len,fun i hi=>?_⟩
 ·obtain⟨h1,h2⟩:=h.arr g e
  exact⟨h1.frm k (no h2 aGO),rol h2 aGO⟩
 ·obtain⟨h1,h2,h3⟩:=h.row i hi
  refine⟨h1,h2,?_⟩;cases e:(J.getD i jr0).2.2 with
  | none=>rw[e]at h3;exact h3
  | some d=>
   rw[e]at h3;obtain⟨q,a,junk,k1,k2,k3,k4⟩:=h3;exact⟨q,a,junk,k1,rol k2 (qR i),fun g e=>rol (k3 g e) (qS i),k4.frm k (no k2 (qR i)) fun g e=>no (k3 g e) (qS i)⟩
def Jr(w:World)(ρ:Nat→Nat)(ja:Option Nat)(jp jj:List JE)(J:List aQ):Prop:=J.length≤900001→JrL w ρ ja jp jj J
theorem Jr.frm{ja:Option Nat}{jp jj:List JE}{J:List aQ}(h:Jr w ρ ja jp jj J)(k:Frm S w w')(ho:∀x,ρ x≠0→x<w.heap.size)(hS:∀x,S x→¬isJ (ρ x))(hρ:∀x,x<w.heap.size→isJ (ρ x)→ρ' x=ρ x):Jr w' ρ' ja jp jj J:=fun hl=>(h hl).frm k ho hS hρ
def fL:List aQ:=List.replicate 1000000 jr0
theorem uT:¬fL.length≤900001:=by unfold fL;rw[List.length_replicate];omega
def aGQ(ja:Option Nat)(jp jj:List JE):Value:=.slice (adr ja) jp.length (jp.length+jj.length)
def St(w:World)(ρ:Nat→Nat)(P:Nat)(A:Adr)(f:fZ)(J:List aQ):Prop:=
 ∃ja jp jj,Rp w ρ P A f (aGQ ja jp jj)∧Jr w ρ ja jp jj J
structure Mv(X:Nat→Prop)(w:World)(ρ:Nat→Nat)(w':World)(ρ':Nat→Nat):Prop where
 frm:Frm (fun k=>ρ k≠0∨X k) w w'
 rol:∀x,x<w.heap.size→¬X x→ρ' x=ρ x
theorem Mv.refl(X:Nat→Prop)(w:World)(ρ:Nat→Nat):Mv X w ρ w ρ:=⟨Frm.refl _ _,fun _ _ _=>rfl⟩
theorem Mv.trans{X:Nat→Prop}{w1 w2 w3:World}{ρ1 ρ2 ρ3:Nat→Nat}(a:Mv X w1 ρ1 w2 ρ2){Y:Nat→Prop}(b:Mv Y w2 ρ2 w3 ρ3)(hY:∀x,x<w1.heap.size→Y x→X x):Mv X w1 ρ1 w3 ρ3:=by
 refine⟨a.frm.next b.frm fun x hx h=>?_,fun x hx hn=>?_⟩
 ·by_cases e:X x
  ·exact .inr e
  ·rcases h with h | h
   ·left;rw[←a.rol x hx e];exact h
   ·exact .inr (hY x hx h)
 ·rw[b.rol x (lL hx a.frm.size) (fun q=>hn (hY x hx q)),a.rol x hx hn]
theorem Mv.up{X Y:Nat→Prop}(a:Mv X w ρ w' ρ')(h:∀x,x<w.heap.size→X x→Y x):Mv Y w ρ w' ρ':=
 ⟨a.frm.wide fun k hk h'=>h'.imp id (h k hk),fun x hx hn=>a.rol x hx fun q=>hn (h x hx q)⟩
end Go.Proofs.YtaahkgkdpnnhhaaGreat
namespace Go.Proofs.YtaahkgkdpnnhhaaGreat
open Go.RowKit Fo
theorem aDV(zs:List Int)(i:Nat)(v:Int):(dG zs).setIfInBounds i (.int .i64 v)=dG (zs.set i v):=by
 simp[dG,List.map_set]
variable {w w' : World} {ρ ρ' : Nat → Nat} {P : Nat} {A : Adr} {f : fZ} {J : List aQ} {S : Nat → Prop} {jv : Value}
theorem St.of{A':Adr}{f':fZ}(h:St w ρ P A f J)(k:Frm S w w')(hS:∀x,S x→¬isJ (ρ x))(hρ:∀x,x<w.heap.size→isJ (ρ x)→ρ' x=ρ x)(hR:∀jv,Rp w ρ P A f jv→Rp w' ρ' P A' f' jv):St w' ρ' P A' f' J:=by
 obtain⟨ja,jp,jj,h1,h2⟩:=h;exact⟨ja,jp,jj,hR _ h1,h2.frm k h1.own hS hρ⟩
theorem aAT(b:Nat):¬isJ (cE b):=(wP b).2
theorem aAU(b:Nat):¬isJ (cB b):=(wQ b).2
theorem aCO:¬isJ 0:=by unfold isJ;omega
theorem Kp.same(h:Rp w ρ P A f jv)(k:Frm S w w'):Kp S w ρ w' ρ:=⟨k,fun _ _ _=>rfl,fun x hx=>lL (h.own x hx) k.size⟩
theorem St.frm(h:St w ρ P A f J)(k:Frm (fun x=>ρ x=0) w w'):St w' ρ P A f J:=
 h.of k (fun x e=>by rw[e];exact aCO) (fun _ _ _=>rfl) fun jv hR=>hR.frm (Kp.same hR k) fun x _ e q=>q.1 e
theorem St.below(h:St w ρ P A f J)(k:Bl w w'):St w' ρ P A f J:=h.frm (Frm.of_below k)
theorem St.setC(h:St w ρ P A f J){b:Nat}(hb:b<f.cur.length)(v:Int):St (w.setCell ⟨A.c,b,none⟩ (.int .i64 v)) ρ P A (setC f b v) J∧Mv (fun _=>False) w ρ (w.setCell ⟨A.c,b,none⟩ (.int .i64 v)) ρ:=by
 have hc:ρ A.c=4:=by obtain⟨_,_,_,h1,_⟩:=h;exact h1.rc
 have k:Frm (fun x=>x=A.c) w (w.setCell ⟨A.c,b,none⟩ (.int .i64 v)):=Frm.set (S:=fun x=>x=A.c) w (p:=⟨A.c,b,none⟩) rfl _;refine⟨h.of k (fun x e=>by rw[e,hc];exact aCQ.2) (fun _ _ _=>rfl) fun jv hR=>?_,k.wide (fun x _ e=>.inl (by rw[e,hc];omega)),fun _ _ _=>rfl⟩;have no:∀{x r},ρ x=r→r≠4→¬x=A.c:=fun {x r} e hr q=>hr (by rw[←e,q,hc]);refine hR.gen (Kp.same hR k) (.inl ⟨no hR.rP (by omega),?_⟩) (.inl ⟨no hR.rr (by omega),rfl,rfl⟩) (.inl ⟨no hR.rm (by omega),rfl⟩) rfl (.inr ?_) rfl (.inl ⟨no hR.rd (by omega),rfl,rfl⟩) (fun x d hx=>.inl ⟨hx,rfl,rfl,fun y hy=>?_⟩) hR.no hR.rs hR.ds
 ·simp[dE,Fo.setC]
 ·have:=hR.hc.set b (.int .i64 v)
  rw[aDV]at this;exact this
 ·rcases hy with e | e
  ·exact no e (by unfold cE;omega)
  ·exact no e (by unfold cB;omega)
def noN(f:fZ)(b:Nat):fZ:={f with nodes:=upd f.nodes b none}
def gQ(A:Adr)(b:Nat):Adr:={A with φ:=upd A.φ b none}
def cV(A:Adr)(b q:Nat)(a:Option Nat):Adr:={A with φ:=upd A.φ b (some q),α:=upd A.α b a}
def dO(A:Adr)(b:Nat)(a:Option Nat):Adr:={A with α:=upd A.α b a}
theorem St.del(h:St w ρ P A f J){b:Nat}(hM:dS w' A.m (upd A.φ b none))(k:Frm (fun x=>x=A.m) w w'):St w' ρ P (gQ A b) (noN f b) J∧Mv (fun _=>False) w ρ w' ρ:=by
 have hc:ρ A.m=3:=by obtain⟨_,_,_,h1,_⟩:=h;exact h1.rm
 refine⟨h.of k (fun x e=>by rw[e,hc];exact vA.2) (fun _ _ _=>rfl) fun jv hR=>?_,k.wide (fun x _ e=>.inl (by rw[e,hc];omega)),fun _ _ _=>rfl⟩;have no:∀{x r},ρ x=r→r≠3→¬x=A.m:=fun {x r} e hr q=>hr (by rw[←e,q,hc]);refine hR.gen (A':=gQ A b) (f':=noN f b) (Kp.same hR k) (.inl ⟨no hR.rP (by omega),rfl⟩) (.inl ⟨no hR.rr (by omega),rfl,rfl⟩) (.inr hM) rfl (.inl ⟨no hR.rc (by omega),rfl⟩) rfl (.inl ⟨no hR.rd (by omega),rfl,rfl⟩) (fun x d hx=>.inl ?_) (fun x hx=>?_) hR.rs hR.ds
 ·have bq:upd f.nodes b none x=some d:=hx
  by_cases e:x=b
  ·subst e;rw[aD]at bq;cases bq
  ·rw[aC _ _ e]at bq
   refine⟨bq,aC _ _ e,rfl,fun y hy=>?_⟩;rcases hy with e | e
   ·exact no e (by unfold cE;omega)
   ·exact no e (by unfold cB;omega)
 ·show upd A.φ b none x=none
  by_cases e:x=b
  ·rw[e,aD]
  ·rw[aC _ _ e]
   exact hR.no x (by have bq:upd f.nodes b none x=none:=hx;rwa [aC _ _ e]at bq)
def uN(ρ:Nat→Nat)(q:Nat)(a:Option Nat)(b:Nat):Nat→Nat:=fun k=>if k=q then cE b else if a=some k then cB b else ρ k
def jC(ρ:Nat→Nat)(a:Option Nat)(b:Nat):Nat→Nat:=fun k=>if a=some k then cB b else ρ k
theorem xF{q:Nat}{a:Option Nat}{b x:Nat}(h:x≠q)(h':a≠some x):uN ρ q a b x=ρ x:=by simp[uN,h,h']
theorem xE{a:Option Nat}{b x:Nat}(h':a≠some x):jC ρ a b x=ρ x:=by simp[jC,h']
theorem St.put(h:St w ρ P A f J){b q:Nat}{d:Nd}{a:Option Nat}{junk:List E3}(hN:aM w q d a junk)(hq:ρ q=0)(ha:∀g,a=some g→ρ g=0)(hM:dS w' A.m (upd A.φ b (some q)))(k:Frm (fun x=>x=A.m) w w'):
  St w' (uN ρ q a b) P (cV A b q a) (setN f b d) J∧Mv (fun x=>x=q∨a=some x) w ρ w' (uN ρ q a b):=by
 have hc:ρ A.m=3:=by obtain⟨_,_,_,h1,_⟩:=h;exact h1.rm
 have nu:∀x,ρ x≠0→uN ρ q a b x=ρ x:=fun x hx=>xF (fun e=>hx (e▸hq)) (fun e=>hx (ha x e));have Kw:q≠A.m:=fun e=>by rw[e,hc]at hq;omega
 have WJ:∀g,a=some g→g≠A.m:=fun g e e'=>by have:=ha g e;rw[e',hc]at this;omega
 refine⟨h.of k (fun x e=>by rw[e,hc];exact vA.2) (fun x _ e=>nu x fun q=>aCO (q▸e)) fun jv hR=>?_,k.wide (fun x _ e=>.inl (by rw[e,hc];omega)),fun x _ e=>xF (fun q=>e (.inl q)) fun q=>e (.inr q)⟩;have no:∀{x r},ρ x=r→r≠3→¬x=A.m:=fun {x r} e hr q=>hr (by rw[←e,q,hc]);have hK:Kp (fun x=>x=A.m) w ρ w' (uN ρ q a b):=⟨k,fun x _ e=>nu x e.1,fun x hx=>by
  by_cases e1:x=q
  ·rw[e1];exact lL hN.box.lt k.size
  ·by_cases e2:a=some x
   ·exact lL (hN.arr x e2).1.lt k.size
   ·rw[xF e1 e2]at hx;exact lL (hR.own x hx) k.size⟩
 refine hR.gen (A':=cV A b q a) (f':=setN f b d) hK (.inl ⟨no hR.rP (by omega),rfl⟩) (.inl ⟨no hR.rr (by omega),rfl,rfl⟩) (.inr hM) rfl (.inl ⟨no hR.rc (by omega),rfl⟩) rfl (.inl ⟨no hR.rd (by omega),rfl,rfl⟩) (fun x d' hx=>?_) (fun x hx=>?_) hR.rs hR.ds
 ·have bq:upd f.nodes b (some d) x=some d':=hx
  by_cases e:x=b
  ·subst e
   rw[aD]at bq;cases bq;refine .inr ⟨q,aD _ _ _,by simp[uN],fun g e=>?_,junk,?_⟩
   ·have e':a=some g:=by rw[←e];exact(aD _ _ _).symm
    have:g≠q:=(hN.arr g e').2
    simp[uN,this,e']
   ·rw[show(cV A x q a).α x=a from aD _ _ _]
    exact hN.frm k Kw WJ
  ·rw[aC _ _ e]at bq
   refine .inl ⟨bq,aC _ _ e,aC _ _ e,fun y hy=>?_⟩;rcases hy with e | e
   ·exact no e (by unfold cE;omega)
   ·exact no e (by unfold cB;omega)
 ·show upd A.φ b (some q) x=none
  have bq:upd f.nodes b (some d) x=none:=hx;by_cases e:x=b
  ·subst e;rw[aD]at bq;cases bq
  ·rw[aC _ _ e]at bq ⊢;exact hR.no x bq
theorem St.node(h:St w ρ P A f J){b q:Nat}{d d':Nd}(hb:f.nodes b=some d)(hφ:A.φ b=some q){a':Option Nat}{junk':List E3}(k:Frm (fun x=>x=q∨A.α b=some x) w w')(hN:aM w' q d' a' junk')(ha:∀g,a'=some g→A.α b=some g∨w.heap.size≤g):
  St w' (jC ρ a' b) P (dO A b a') (setN f b d') J∧Mv (fun _=>False) w ρ w' (jC ρ a' b):=by
 have cy:ρ q=cE b∧(∀g,A.α b=some g→ρ g=cB b):=by
  obtain⟨_,_,_,h1,_⟩:=h;obtain⟨q',e1,e2,e3,_⟩:=h1.nd b d hb;rw[hφ]at e1;cases e1;exact⟨e2,e3⟩
 have ap:∀x,ρ x≠0→x<w.heap.size:=by obtain⟨_,_,_,h1,_⟩:=h;exact h1.own
 have nu:∀x,x<w.heap.size→jC ρ a' b x=ρ x:=fun x hx=>by
  by_cases e:a'=some x
  ·rcases ha x e with e' | e'
   ·simp only[jC,e,if_true];exact(cy.2 x e').symm
   ·omega
  ·exact xE e
 have hS:∀x,x=q∨A.α b=some x→ρ x=cE b∨ρ x=cB b:=fun x e=>by
  rcases e with e | e
  ·left;rw[e];exact cy.1
  ·right;exact cy.2 x e
 have hq:q<w.heap.size:=ap q (by rw[cy.1];unfold cE;omega);refine⟨h.of k (fun x e=>?_) (fun x hx _=>nu x hx) fun jv hR=>?_,k.wide (fun x _ e=>.inl ?_),fun x hx _=>nu x hx⟩
 ·rcases hS x e with e | e<;>rw[e]
  ·exact aAT b
  ·exact aAU b
 ·have no:∀{x r},ρ x=r→r≠cE b→r≠cB b→¬(x=q∨A.α b=some x):=fun {x r} e h1 h2 q=>by
   rcases hS x q with e' | e'
   ·exact h1 (e.symm.trans e')
   ·exact h2 (e.symm.trans e')
  have hK:Kp (fun x=>x=q∨A.α b=some x) w ρ w' (jC ρ a' b):=⟨k,fun x hx e=>nu x hx,fun x hx=>by
   by_cases e:a'=some x
   ·exact(hN.arr x e).1.lt
   ·rw[xE e]at hx;exact lL (ap x hx) k.size⟩
  have u1:1≠cE b∧1≠cB b:=by unfold cE cB;omega
  have u2:2≠cE b∧2≠cB b:=by unfold cE cB;omega
  have u3:3≠cE b∧3≠cB b:=by unfold cE cB;omega
  have u4:4≠cE b∧4≠cB b:=by unfold cE cB;omega
  have u5:5≠cE b∧5≠cB b:=by unfold cE cB;omega
  refine hR.gen (A':=dO A b a') (f':=setN f b d') hK (.inl ⟨no hR.rP u1.1 u1.2,rfl⟩) (.inl ⟨no hR.rr u2.1 u2.2,rfl,rfl⟩) (.inl ⟨no hR.rm u3.1 u3.2,rfl⟩) rfl (.inl ⟨no hR.rc u4.1 u4.2,rfl⟩) rfl (.inl ⟨no hR.rd u5.1 u5.2,rfl,rfl⟩) (fun x d2 hx=>?_) (fun x hx=>?_) hR.rs hR.ds
  ·have bq:upd f.nodes b (some d') x=some d2:=hx
   by_cases e:x=b
   ·subst e
    rw[aD]at bq;cases bq;refine .inr ⟨q,hφ,by rw[nu q hq];exact cy.1,fun g e=>?_,junk',?_⟩
    ·have e':a'=some g:=by rw[←e];exact(aD _ _ _).symm
     simp[jC,e']
    ·rw[show(dO A x a').α x=a' from aD _ _ _]
     exact hN
   ·rw[aC _ _ e]at bq
    refine .inl ⟨bq,rfl,aC _ _ e,fun y hy=>?_⟩;rcases hy with e2 | e2
    ·exact no e2 (by unfold cE;omega) (by unfold cE cB;omega)
    ·exact no e2 (by unfold cE cB;omega) (by unfold cB;omega)
  ·have bq:upd f.nodes b (some d') x=none:=hx
   by_cases e:x=b
   ·subst e;rw[aD]at bq;cases bq
   ·rw[aC _ _ e]at bq;exact hR.no x bq
 ·rcases hS x e with e | e<;>rw[e]
  ·unfold cE;omega
  ·unfold cB;omega
end Go.Proofs.YtaahkgkdpnnhhaaGreat
namespace Go.Proofs.YtaahkgkdpnnhhaaGreat
open Go.RowKit Fo
variable{K v:Int}{f:fZ}
theorem IsC.ne{w:World}{g g':Nat}{cs cs':Array Value}{t t':TypeId}(h:IsC w g cs t)(h':IsC w g' cs' t')(ht:t≠t'):g≠g':=fun e=>by
 subst e;unfold IsC at h h';rw[h]at h';simp only[sJ,Obj.cells.injEq]at h';exact ht h'.2.1
structure Sz(K:Int)(f:fZ):Prop where
 n512:f.cur.length≤512
 n8:8≤f.cur.length
 com:f.com.length=f.cur.length
 ent:∀b d,f.nodes b=some d→d.2.length≤10
 lt:∀b d,f.nodes b=some d→b<f.cur.length
 cb:∀i,0≤cu f i∧cu f i≤K
 mb:∀i,0≤co f i∧co f i≤1000000
theorem Sz.of{f':fZ}(h:Sz K f)(h1:f'.cur.length=f.cur.length)(h2:f'.com=f.com)(h4:∀i,0≤cu f' i∧cu f' i≤K)(h3:∀b d,f'.nodes b=some d→(f.nodes b=some d)∨(b<f.cur.length∧d.2.length≤10)):Sz K f':=by
 refine⟨by rw[h1];exact h.n512,by rw[h1];exact h.n8,by rw[h1,h2];exact h.com,fun b d hb=>?_,fun b d hb=>?_,h4,by unfold co;rw[h2];exact h.mb⟩
 ·rcases h3 b d hb with q | q
  ·exact h.ent b d q
  ·exact q.2
 ·rw[h1]
  rcases h3 b d hb with q | q
  ·exact h.lt b d q
  ·exact q.1
theorem Sz.up{L:Int}(h:Sz K f)(hK:K≤L):Sz L f:={h with cb:=fun i=>⟨(h.cb i).1,Int.le_trans (h.cb i).2 hK⟩}
theorem aLA(h:∀i,0≤cu f i∧cu f i≤K)(b:Nat)(h0:0≤v)(hK:v≤K)(i:Nat):0≤(f.cur.set b v).getD i 0∧(f.cur.set b v).getD i 0≤K:=by
 rw[gD,List.getElem?_set];have:=h i;unfold cu at this;rw[gD]at this;split
 ·split
  ·exact⟨h0,hK⟩
  ·simp only[Option.getD_none];exact⟨by omega,by have:=h b;omega⟩
 ·exact this
theorem Sz.setC(h:Sz K f)(b:Nat)(h0:0≤v)(hK:v≤K):Sz K (setC f b v):=h.of (by simp[Fo.setC]) rfl (aLA h.cb b h0 hK) fun _ _ q=>.inl q
theorem Sz.noN(h:Sz K f)(b:Nat):Sz K (noN f b):=h.of rfl rfl h.cb fun x d q=>by
 have q':upd f.nodes b none x=some d:=q;by_cases e:x=b
 ·rw[e,aD]at q';cases q'
 ·rw[aC _ _ e]at q';exact .inl q'
theorem Sz.setN(h:Sz K f){b:Nat}(hb:b<f.cur.length){d:Nd}(hd:d.2.length≤10):Sz K (setN f b d):=h.of rfl rfl h.cb fun x e q=>by
 have q':upd f.nodes b (some d) x=some e:=q;by_cases c:x=b
 ·subst c;rw[aD]at q';cases q';exact .inr ⟨hb,hd⟩
 ·rw[aC _ _ c]at q';exact .inl q'
theorem lR(w:World)(ρ:Nat→Nat)(P:Nat)(A:Adr)(f:fZ)(J:List aQ)(b:Nat)(h:St w ρ P A f J)(hz:Sz K f)(hb:b<f.cur.length)(kz:J.length≤900000):
  Calls Tryz.prog 132 #[.pointer (some ⟨P,0,none⟩),.int .i64 b] w fun e w'=>e=.returned (.tuple #[])∧∃ρ',St w' ρ' P A f (J++[(b,cu f b,f.nodes b)])∧Mv (fun _=>False) w ρ w' ρ'∧KeepsOthers w w'∧Frm (fun k=>ρ k=1∨ρ k=6) w w':=by
 obtain⟨ja,jp,jj,hR,Kd⟩:=h;have hJ:=Kd (by omega);have ho:=hR.own;obtain⟨d,hd⟩:∃d,d=(f.nodes b).getD (0,[]):=⟨_,rfl⟩;have hx:∀q,A.φ b=some q→f.nodes b=some d∧∃a junk,aM w q d a junk:=fun q e=>by
  cases hn:f.nodes b with
  | none=>rw[hR.no b hn]at e;cases e
  | some d'=>
   rw[hn]at hd;simp only[Option.getD_some]at hd;subst hd;obtain⟨q',e1,e2,e3,j,e4⟩:=hR.nd b d hn;rw[e]at e1;cases e1;exact⟨rfl,_,j,e4⟩
 have ft:d.2.length≤10:=by
  cases hn:f.nodes b with
  | none=>rw[hd,hn];simp
  | some d'=>rw[hn]at hd;simp only[Option.getD_some]at hd;subst hd;exact hz.ent b d hn
 refine(aHT P A.m A.c f.cur.length b _ _ A.tv f.next f.gen f.cur A.φ ja jp jj w hR.hP hR.hc rfl hb hz.n512 hR.hm d (fun q e=>(hx q e).2) ft (fun g e=>?_) hJ.nil hJ.small (by rw[hJ.len];exact kz)).mono ?_
 ·obtain⟨h1,h2⟩:=hJ.arr g e
  exact⟨h1,fun q=>by rw[q,hR.rP]at h2;omega,fun q=>by rw[q,hR.rm]at h2;omega,fun q=>by rw[q,hR.rc]at h2;omega⟩
 rintro e w' ⟨rfl,x',ja',jj',k1,k2,k3,k4,⟨w1,k5,k6⟩,k7⟩;refine⟨rfl,?_⟩;obtain⟨a',ol⟩:∃a':Option Nat,(x'=none→f.nodes b=none∧a'=none)∧(∀g,a'=some g→w.heap.size≤g∧∃cs,IsC w' g cs 110)∧∀q',x'=some q'→w.heap.size≤q'∧(∃cs,IsC w' q' cs 108)∧f.nodes b=some d∧∃j,aM w' q' d a' j:=by
  cases hφ:A.φ b with
  | none=>
   have:x'=none:=k5.none hφ
   refine⟨none,fun _=>⟨?_,rfl⟩,fun g e=>(by cases e),fun q' e=>by rw[this]at e;cases e⟩;cases hn:f.nodes b with
   | none=>rfl
   | some d'=>obtain⟨q',e1,_⟩:=hR.nd b d' hn;rw[hφ]at e1;cases e1
  | some q=>
   obtain⟨q',a',j',e1,e2,e3,e4⟩:=k5.some q hφ;have hS:∀y,w.heap.size≤y→¬(y=P∨ja=some y):=fun y hy q=>by
    rcases q with q | q
    ·have:=hR.hP.lt;omega
    ·have:=(hJ.arr y q).1.lt;omega
   have e5:aM w' q' d a' j':=e4.frm k6 (hS q' e2) fun g e=>hS g (e3 g e);refine⟨a',fun e=>(by rw[e1]at e;cases e),fun g e=>⟨e3 g e,_,(e5.arr g e).1⟩,fun q2 e=>?_⟩;rw[e1]at e;cases e;exact⟨e2,⟨_,e5.box⟩,(hx q hφ).1,j',e5⟩
 obtain⟨c1,c2,c3⟩:=ol;obtain⟨ρ',hρ'⟩:∃ρ':Nat→Nat,ρ'=fun k=>if k<w.heap.size then ρ k else if x'=some k then jW J.length else if a'=some k then jX J.length else if ja'=some k then 6 else 0:=⟨_,rfl⟩;have rold:∀k,k<w.heap.size→ρ' k=ρ k:=fun k hk=>by rw[hρ'];simp[hk]
 have rbx:∀q',x'=some q'→ρ' q'=jW J.length:=fun q' e=>by
  have:=(c3 q' e).1
  rw[hρ'];simp[e,show ¬q'<w.heap.size by omega]
 have rnt:∀g,a'=some g→ρ' g=jX J.length:=fun g e=>by
  obtain⟨h1,cs,h2⟩:=c2 g e;have av:x'≠some g:=fun q=>by
   obtain⟨_,⟨cs',h3⟩,_⟩:=c3 g q;exact IsC.ne h2 h3 (by decide) rfl
  rw[hρ'];simp[e,av,show ¬g<w.heap.size by omega]
 have rjn:∀g,ja'=some g→ρ' g=6:=fun g e=>by
  obtain⟨h1,h2⟩:=k2 g e;by_cases hl:g<w.heap.size
  ·rw[rold g hl]
   rcases h2 with h2 | h2
   ·exact(hJ.arr g h2).2
   ·omega
  ·have av:x'≠some g:=fun q=>by
    obtain⟨_,⟨cs',h3⟩,_⟩:=c3 g q;exact IsC.ne h1 h3 (by decide) rfl
   have RV:a'≠some g:=fun q=>by
    obtain⟨_,cs,h3⟩:=c2 g q;exact IsC.ne h1 h3 (by decide) rfl
   rw[hρ'];simp[e,av,RV,hl]
 have sg:∀k,ρ' k≠0→k<w'.heap.size:=fun k hk=>by
  by_cases hl:k<w.heap.size
  ·exact lL hl k7.size
  ·by_cases e1:x'=some k
   ·obtain⟨_,⟨_,h3⟩,_⟩:=c3 k e1;exact h3.lt
   ·by_cases e2:a'=some k
    ·obtain⟨_,_,h3⟩:=c2 k e2;exact h3.lt
    ·by_cases e3:ja'=some k
     ·exact(k2 k e3).1.lt
     ·rw[hρ']at hk;simp[hl,e1,e2,e3]at hk
 have yx:∀x,x=P∨ja=some x→ρ x=1∨ρ x=6:=fun x e=>by
  rcases e with e | e
  ·left;rw[e];exact hR.rP
  ·right;exact(hJ.arr x e).2
 have no:∀{x r},ρ x=r→r≠1→r≠6→¬(x=P∨ja=some x):=fun {x r} e h1 h2 q=>by
  rcases yx x q with e' | e'
  ·exact h1 (e.symm.trans e')
  ·exact h2 (e.symm.trans e')
 have y8:KeepsOthers w w':=⟨k7.size,fun k o hk hc=>by
  refine(k7.block k (Array.getElem?_eq_some_iff.1 hk).1 fun e=>?_).trans hk;rcases e with e | e
  ·subst e;rw[show w.heap[k]?=_ from hR.hP]at hk;cases hk;cases hc
  ·rw[show w.heap[k]?=_ from(hJ.arr k e).1]at hk;cases hk;cases hc⟩
 refine⟨ρ',⟨ja',jp++[((b:Int),cu f b,x')],jj',?_,?_⟩,⟨k7.wide (fun x hx e=>.inl ?_),fun x hx _=>rold x hx⟩,y8,k7.wide fun x _ e=>yx x e⟩
 ·have hK:Kp (fun x=>x=P∨ja=some x) w ρ w' ρ':=⟨k7,fun x hx _=>rold x hx,sg⟩
  refine hR.gen hK (.inr ?_) (.inl ⟨no hR.rr (by omega) (by omega),rfl,rfl⟩) (.inl ⟨no hR.rm (by omega) (by omega),rfl⟩) rfl (.inl ⟨no hR.rc (by omega) (by omega),rfl⟩) rfl (.inl ⟨no hR.rd (by omega) (by omega),rfl,rfl⟩) (fun x d hx=>.inl ⟨hx,rfl,rfl,fun y hy=>?_⟩) hR.no hR.rs hR.ds
  ·have:dE A f (aGQ ja' (jp++[((b:Int),cu f b,x')]) jj')=dE A f (.slice (adr ja') (jp.length+1) (jp.length+1+jj'.length)):=by simp[aGQ]
   rw[this];exact k1
  ·rcases hy with e | e
   ·exact no e (by unfold cE;omega) (by unfold cE;omega)
   ·exact no e (by unfold cB;omega) (by unfold cB;omega)
 ·refine fun _=>⟨fun g e=>⟨(k2 g e).1,rjn g e⟩,fun e=>absurd e k3,by simpa using k4,by simp[hJ.len],fun i hi=>?_⟩
  by_cases am:i<J.length
  ·obtain⟨h1,h2,h3⟩:=hJ.row i am
   have e1:(J++[(b,cu f b,f.nodes b)]).getD i jr0=J.getD i jr0:=by
    rw[gD,List.getElem?_append_left am,←gD]
   have e2:(jp++[((b:Int),cu f b,x')]).getD i j0=jp.getD i j0:=by
    rw[gD,List.getElem?_append_left (by rw[hJ.len];exact am),←gD]
   rw[e1,e2];refine⟨h1,h2,?_⟩;cases e:(J.getD i jr0).2.2 with
   | none=>rw[e]at h3;exact h3
   | some dd=>
    rw[e]at h3;obtain⟨q,a,junk,m1,m2,m3,m4⟩:=h3;have b1:=ho q (by rw[m2];unfold jW;omega);refine⟨q,a,junk,m1,by rw[rold q b1,m2],fun g e=>?_,m4.frm k7 (no m2 (by unfold jW;omega) (by unfold jW;omega)) fun g e=>no (m3 g e) (by unfold jX;omega) (by unfold jX;omega)⟩;have b2:=ho g (by rw[m3 g e];unfold jX;omega);rw[rold g b2,m3 g e]
  ·have AK:i=J.length:=by simp at hi;omega
   subst AK;have e1:(J++[(b,cu f b,f.nodes b)]).getD J.length jr0=(b,cu f b,f.nodes b):=by simp[gD]
   have e2:(jp++[((b:Int),cu f b,x')]).getD J.length j0=((b:Int),cu f b,x'):=by rw[←hJ.len];simp[gD]
   rw[e1,e2];refine⟨rfl,rfl,?_⟩;cases bq:x' with
   | none=>simp only[(c1 bq).1]
   | some q'=>
    obtain⟨h1,h2,h3,j,h4⟩:=c3 q' bq;simp only[h3];exact⟨q',a',j,rfl,rbx q' bq,rnt,h4⟩
 ·rcases yx x e with e | e<;>omega
