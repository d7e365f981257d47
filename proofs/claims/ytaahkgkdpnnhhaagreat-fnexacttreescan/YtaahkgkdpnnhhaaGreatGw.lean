import Derived.Maps.RangeWalk
import Derived.Shelf.SortG.SortNone
import Derived.Test.YtaahkgkdpnnhhaaGreatHq36
set_option maxHeartbeats 9999999
set_option maxRecDepth 99999
set_option linter.all false
namespace Go.Proofs.YtaahkgkdpnnhhaaGreat
open Go.RowKit Fo
structure Ely(α:Type) where
 cell:α→List Value
 n:Nat
 z:α
 zv:Value
 t:TypeId
 s:TypeId
 by':Nat
 hn:∀a,(cell a).length=n
 hp:0<n
 one:∀a,∀v∈cell a,v.oneCell'=true
 hz:zv.cells=(cell z).toArray
 us:Tryz.prog.underlying s=some (.slice t)
 hb:0<by'∧by'≤64
 info:∃i,Tryz.prog.info? t=some i∧i.size=n∧i.bytes=by'∧i.zero=some zv
variable {α : Type} (Y : Ely α)
def Ely.row(l:List α):Array Value:=(l.flatMap Y.cell).toArray
theorem Ely.len(l:List α):(l.flatMap Y.cell).length=l.length*Y.n:=by
 induction l with
 | nil=>simp
 | cons e l ih=>simp only[List.flatMap_cons,lP,ih,Y.hn,List.length_cons,Nat.succ_mul];omega
theorem Ely.size(l:List α):(Y.row l).size=l.length*Y.n:=by unfold Ely.row;rw[List.size_toArray,Y.len]
theorem Ely.at(l:List α){i j:Nat}(hi:i<l.length)(hj:j<Y.n):(Y.row l)[i*Y.n+j]?=(Y.cell (l.getD i Y.z))[j]?:=by
 unfold Ely.row;rw[List.getElem?_toArray];induction l generalizing i with
 | nil=>simp at hi
 | cons e l ih=>
  rw[List.flatMap_cons];cases i with
  | zero=>rw[Nat.zero_mul,Nat.zero_add,List.getElem?_append_left (by rw[Y.hn];exact hj)];rfl
  | succ i=>
   rw[List.getElem?_append_right (by rw[Y.hn,Nat.succ_mul];omega),Y.hn,show(i+1)*Y.n+j-Y.n=i*Y.n+j by rw[Nat.succ_mul];omega];rw[ih (by simpa using hi)];rfl
theorem Ely.takeL(l:List α):∀n:Nat,(l.flatMap Y.cell).take (n*Y.n)=(l.take n).flatMap Y.cell:=by
 induction l with
 | nil=>intro n;simp
 | cons e l ih=>
  intro n;cases n with
  | zero=>simp
  | succ n=>rw[List.flatMap_cons,List.take_succ_cons,List.flatMap_cons,List.take_append,Y.hn,List.take_of_length_le (by rw[Y.hn,Nat.succ_mul];omega),show(n+1)*Y.n-Y.n=n*Y.n by rw[Nat.succ_mul];omega,ih]
theorem Ely.dropL(l:List α):∀n:Nat,(l.flatMap Y.cell).drop (n*Y.n)=(l.drop n).flatMap Y.cell:=by
 induction l with
 | nil=>intro n;simp
 | cons e l ih=>
  intro n;cases n with
  | zero=>simp
  | succ n=>rw[List.flatMap_cons,List.drop_succ_cons,List.drop_append,Y.hn,List.drop_of_length_le (by rw[Y.hn,Nat.succ_mul];omega),show(n+1)*Y.n-Y.n=n*Y.n by rw[Nat.succ_mul];omega,ih,List.nil_append]
theorem Ely.spl(xs ys:List α)(i:Nat):Go.Proofs.YtaahkgkdpnnhhaaGreat.spl (xs.flatMap Y.cell) (i*Y.n) (ys.flatMap Y.cell)=(Go.Proofs.YtaahkgkdpnnhhaaGreat.spl xs i ys).flatMap Y.cell:=by
 unfold Go.Proofs.YtaahkgkdpnnhhaaGreat.spl;rw[Y.takeL,Y.len,←Nat.add_mul,Y.dropL,List.flatMap_append,List.flatMap_append]
theorem Ely.oneL(l:List α):∀v∈l.flatMap Y.cell,v.oneCell'=true:=fun v hv=>by
 obtain⟨e,_,he⟩:=List.mem_flatMap.1 hv;exact Y.one e v he
theorem Ely.zeroL(m:Nat):Builtin.zeroCells Y.zv.cells m=((List.replicate m Y.z).flatMap Y.cell).toArray:=by
 rw[Y.hz];apply Array.toList_inj.1;refine List.ext_getElem? fun i=>?_;simp only[Builtin.zeroCells,List.size_toArray,Y.hn,Array.toList_map,Array.toList_range,List.getElem?_map];by_cases hi:i<m*Y.n
 ·rw[List.getElem?_range hi]
  have hd:i / Y.n<m:=Nat.div_lt_of_lt_mul (by rw[Nat.mul_comm];exact hi);have hm:i % Y.n<Y.n:=Nat.mod_lt _ Y.hp;have:=Y.at (List.replicate m Y.z) (i:=i / Y.n) (j:=i % Y.n) (by simpa using hd) hm;unfold Ely.row at this;rw[List.getElem?_toArray,Nat.div_add_mod']at this;rw[this];have e1:(List.replicate m Y.z).getD (i / Y.n) Y.z=Y.z:=by rw[gD,List.getElem?_replicate];split<;>rfl
  rw[e1,gE (by rw[Y.hn];exact hm)];simp[Y.hn,hm]
 ·rw[List.getElem?_eq_none (by simp;omega),List.getElem?_eq_none (by rw[Y.len,List.length_replicate];omega)];rfl
def Ely.Sl(w:World)(v:Value)(l:List α):Prop:=
 (v=.slice none 0 0∧l=[])∨∃g o cap xs,v=.slice (some ⟨g,o*Y.n,none⟩) l.length cap∧IsC w g (Y.row xs) Y.t∧o+l.length≤xs.length∧(xs.drop o).take l.length=l
theorem Ely.Sl.cells{Y:Ely α}{w:World}{g o:Nat}{xs es:List α}(h:IsC w g (Y.row xs) Y.t)(hl:o+es.length≤xs.length)(he:(xs.drop o).take es.length=es):∀j v,(es.flatMap Y.cell)[j]?=some v→w.cell? ((⟨g,o*Y.n,none⟩:Addr).add j)=some v:=fun j v hj=>by
 have tw:(⟨g,o*Y.n,none⟩:Addr).add j=⟨g,o*Y.n+j,none⟩:=by unfold Addr.add;split<;>simp_all
 rw[tw,h.cell];have e1:Go.Proofs.YtaahkgkdpnnhhaaGreat.spl (xs.flatMap Y.cell) (o*Y.n) (es.flatMap Y.cell)=xs.flatMap Y.cell:=by
  rw[Y.spl];congr 1;unfold Go.Proofs.YtaahkgkdpnnhhaaGreat.spl;rw[←he,List.length_take,List.length_drop,List.append_assoc];rw[show min es.length (xs.length-o)=es.length by omega];rw[←List.drop_drop,List.take_append_drop,List.take_append_drop]
 have yg:j <(es.flatMap Y.cell).length:=(List.getElem?_eq_some_iff.1 hj).1;have:(Y.row xs)[o*Y.n+j]?=(xs.flatMap Y.cell)[o*Y.n+j]?:=by simp[Ely.row]
 rw[this,←e1];unfold Go.Proofs.YtaahkgkdpnnhhaaGreat.spl;have pr:((xs.flatMap Y.cell).take (o*Y.n)).length=o*Y.n:=by
  rw[List.length_take,Y.len];have:o*Y.n≤xs.length*Y.n:=Nat.mul_le_mul_right _ (by omega);omega
 rw[List.append_assoc,List.getElem?_append_right (by omega),pr,show o*Y.n+j-o*Y.n=j by omega,List.getElem?_append_left yg];exact hj
theorem Ely.Sl.frm{Y:Ely α}{S:Nat→Prop}{w w':World}{v:Value}{l:List α}(h:Y.Sl w v l)(k:Frm S w w')(hS:∀g cs,IsC w g cs Y.t→¬S g):Y.Sl w' v l:=by
 rcases h with h | ⟨g,o,cap,xs,h1,h2,h3,h4⟩
 ·exact .inl h
 ·exact .inr ⟨g,o,cap,xs,h1,h2.frm k (hS g _ h2),h3,h4⟩
theorem Ely.Sl.below{Y:Ely α}{w w':World}{v:Value}{l:List α}(h:Y.Sl w v l)(k:Bl w w'):Y.Sl w' v l:=h.frm (Frm.of_below (S:=fun _=>False) k) fun _ _ _=>id
structure Ely.Rw(w:World)(a:Option Nat)(l junk:List α):Prop where
 arr:∀g,a=some g→IsC w g (Y.row (l++junk)) Y.t
 nil:a=none→l=[]∧junk=[]
 small:l.length+junk.length≤maxLen
theorem Ely.Rw.sl{Y:Ely α}{w:World}{a:Option Nat}{l junk:List α}(h:Y.Rw w a l junk):Y.Sl w (.slice (adr a) l.length (l.length+junk.length)) l:=by
 cases a with
 | none=>obtain⟨rfl,rfl⟩:=h.nil rfl;exact .inl ⟨rfl,rfl⟩
 | some g=>exact .inr ⟨g,0,l.length+junk.length,l++junk,by simp[adr],h.arr g rfl,by simp,by simp⟩
theorem Ely.Rw.frm{Y:Ely α}{S:Nat→Prop}{w w':World}{a:Option Nat}{l junk:List α}(h:Y.Rw w a l junk)(k:Frm S w w')(hS:∀g,a=some g→¬S g):Y.Rw w' a l junk:=
 ⟨fun g e=>(h.arr g e).frm k (hS g e),h.nil,h.small⟩
theorem Ely.nsc{need old:Nat}(h:need≤1000000)(ho:old<need):Builtin.nextslicecap need old*Y.by'≤281474976710656:=by
 have:=Y.hb
 have h2:need*Y.by'≤1000000*64:=Nat.mul_le_mul h this.2;exact growslice_fits (bytes:=Y.by') (need:=need) (old:=old) ho (by omega)
theorem Ely.append(a:Option Nat)(es junk vs:List α)(v:Value)(W:World)(ha:Y.Rw W a es junk)(hv:Y.Sl W v vs)(Ai:es.length+vs.length≤1000000):
  ∃u W' a' junk',(∀ty,(Builtin.append_ #[Y.s,Y.s] ty #[.slice (adr a) es.length (es.length+junk.length),v]).run Tryz.prog W=.ok u W')∧u=.slice (adr a') (es.length+vs.length) (es.length+vs.length+junk'.length)∧
   Y.Rw W' a' (es++vs) junk'∧(∀g,a'=some g→a=some g∨W.heap.size≤g)∧Frm (fun k=>a=some k) W W':=by
 obtain⟨i0,hi,h3,Aj,hz⟩:=Y.info;have hm:=ha.small;have d8:Src Tryz.prog i0.size Y.s v vs.length (vs.flatMap Y.cell) W:=by
  rcases hv with⟨rfl,rfl⟩ | ⟨gv,o,cap,xs,rfl,hx,hl,he⟩
  ·exact Src.ofNil W Y.us 0
  ·exact Src.ofSlice W Y.us ⟨gv,o*Y.n,none⟩ vs.length cap _ (by rw[Y.len,h3]) (Ely.Sl.cells hx hl he) (Y.oneL vs)
 by_cases jq:vs.length≤junk.length
 ·cases a with
  | none=>
   obtain⟨rfl,rfl⟩:=ha.nil rfl;have GN:vs=[]:=List.length_eq_zero_iff.1 (by simpa using jq);subst GN;refine⟨_,W,none,[],fun ty=>?_,rfl,⟨fun g q=>(by cases q),fun _=>⟨rfl,rfl⟩,by simp⟩,fun g q=>(by cases q),Frm.refl _ _⟩;have:=run_append_nothing (P:=Tryz.prog) W Y.s Y.s ty Y.t i0 Y.us hi none 0 0 (nR _) v d8;exact this
  | some g=>
   have hg:=ha.arr g rfl;refine⟨_,_,some g,junk.drop vs.length,fun ty=>run_append_room_src (P:=Tryz.prog) W Y.s Y.s ty Y.t i0 Y.us hi g 0 es.length (es.length+junk.length) v _ _ d8 (by omega)
    (fun k hk=>by
     rw[Y.len]at hk;have:(es.length+vs.length)*Y.n≤(es.length+junk.length)*Y.n:=Nat.mul_le_mul_right _ (by omega);rw[Nat.add_mul,Nat.add_mul]at this;rw[hg.cell,h3,Array.getElem?_eq_getElem (by rw[Y.size,lP,Nat.add_mul];omega)];rfl) (fun k hk=>hg.frozen _),?_,⟨fun g' q=>?_,fun q=>(by cases q),?_⟩,fun g' q=>.inl q,?_⟩
   ·simp[adr];omega
   ·cases q
    have:=IsC.sets (vs.flatMap Y.cell) (cs:=(es++junk).flatMap Y.cell) (es.length*Y.n) hg (by
     rw[Y.len,Y.len,lP,←Nat.add_mul];exact Nat.mul_le_mul_right _ (by omega))
    rw[Y.spl]at this;have e1:Go.Proofs.YtaahkgkdpnnhhaaGreat.spl (es++junk) es.length vs=es++vs++junk.drop vs.length:=by
     unfold Go.Proofs.YtaahkgkdpnnhhaaGreat.spl;rw[List.take_left,←List.drop_drop,List.drop_left]
    rw[e1]at this;rw[h3,Nat.zero_add];exact this
   ·simp;omega
   ·exact Frm.sets (S:=fun k=>some g=some k) _ rfl _ _
 ·have sn:(Builtin.firstCells i0.size es.length (.slice (adr a) es.length (es.length+junk.length))).run Tryz.prog W.drew=.ok (es.flatMap Y.cell).toArray W.drew:=by
   cases a with
   | none=>
    obtain⟨rfl,rfl⟩:=ha.nil rfl;exact run_firstCells_none (P:=Tryz.prog) W.drew i0.size 0 0 0
   | some g=>
    have hg:=ha.arr g rfl;exact run_firstCells_some (P:=Tryz.prog) W.drew i0.size es.length ⟨g,0,none⟩ es.length _ (es.flatMap Y.cell) (by rw[Y.len,h3]) (by
     have:=Ely.Sl.cells (Y:=Y) (w:=W.drew) (g:=g) (o:=0) (xs:=es++junk) (es:=es) hg.drew (by rw[lP];omega) (by simp)
     rw[Nat.zero_mul]at this;exact this)
  have hr:=fun ty=>run_append_grow_src (P:=Tryz.prog) W Y.s Y.s ty Y.t i0 _ Y.us hi hz (adr a) es.length (es.length+junk.length) (es.flatMap Y.cell) sn v vs.length (vs.flatMap Y.cell) d8 (by omega) (by omega) (by rw[Aj];exact Y.nsc (by omega) (by omega));have xz:=grownCap_ge W (es.length+vs.length) (es.length+junk.length) Y.t;have pr:=grownCap_le_maxLen W (es.length+vs.length) (es.length+junk.length) Y.t (by simp[maxLen];omega);generalize grownCap W (es.length+vs.length) (es.length+junk.length) Y.t=gc at *;refine⟨_,_,some W.heap.size,List.replicate (gc -(es.length+vs.length)) Y.z,hr,?_,⟨fun g q=>?_,fun q=>(by cases q),?_⟩,fun g q=>(by cases q;exact .inr (nR _)),?_⟩
  ·simp[adr];omega
  ·cases q
   have:=IsC.new W.drew ((es.flatMap Y.cell++vs.flatMap Y.cell).toArray++Builtin.zeroCells Y.zv.cells (gc -(es.length+vs.length))) Y.t
   have e:Y.row (es++vs++List.replicate (gc -(es.length+vs.length)) Y.z)=(es.flatMap Y.cell++vs.flatMap Y.cell).toArray++Builtin.zeroCells Y.zv.cells (gc -(es.length+vs.length)):=by
    rw[Y.zeroL];simp[Ely.row]
   rw[e];exact this
  ·simp;omega
  ·exact(Frm.drew _ W).trans (Frm.alloc _ _ _)
end Go.Proofs.YtaahkgkdpnnhhaaGreat
namespace Go.Proofs.YtaahkgkdpnnhhaaGreat
open Go.RowKit Fo
variable {α : Type} {Y : Ely α}
def Ely.Own(Y:Ely α)(base:Nat)(w:World)(u:Value)(l:List α):Prop:=∃a junk,u=.slice (adr a) l.length (l.length+junk.length)∧Y.Rw w a l junk∧∀g,a=some g→base≤g
theorem Ely.Own.sl{base:Nat}{w:World}{u:Value}{l:List α}(h:Y.Own base w u l):Y.Sl w u l:=by
 obtain⟨a,junk,rfl,h1,_⟩:=h;exact h1.sl
theorem Ely.Own.frm{S:Nat→Prop}{base:Nat}{w w':World}{u:Value}{l:List α}(h:Y.Own base w u l)(k:Frm S w w')(hS:∀g,base≤g→¬S g):Y.Own base w' u l:=by
 obtain⟨a,junk,rfl,h1,h2⟩:=h;exact⟨a,junk,rfl,h1.frm k fun g e=>hS g (h2 g e),h2⟩
theorem Ely.Own.below{base:Nat}{w w':World}{u:Value}{l:List α}(h:Y.Own base w u l)(k:Bl w w'):Y.Own base w' u l:=h.frm (Frm.of_below (S:=fun _=>False) k) fun _ _=>id
theorem Ely.Own.lit(base:Nat)(w:World)(hb:base≤w.heap.size)(g:Nat)(hg:g=w.heap.size):Y.Own base (w.alloc (.cells #[] Y.t)) (.slice (some ⟨g,0,none⟩) 0 0) []:=by
 subst hg;exact⟨some w.heap.size,[],rfl,⟨fun g e=>(by cases e;exact IsC.new _ _ _),fun e=>(by cases e),by simp⟩,fun g e=>(by cases e;exact hb)⟩
theorem Ely.Own.nil(base:Nat)(w:World):Y.Own base w (.slice none 0 0) []:=
 ⟨none,[],rfl,⟨fun g e=>(by cases e),fun _=>⟨rfl,rfl⟩,by simp⟩,fun g e=>(by cases e)⟩
theorem Ely.Own.base{b b':Nat}{w:World}{u:Value}{l:List α}(h:Y.Own b w u l)(hb:b'≤b):Y.Own b' w u l:=by
 obtain⟨a,junk,rfl,h1,h2⟩:=h;exact⟨a,junk,rfl,h1,fun g e=>lT hb (h2 g e)⟩
theorem Ely.Sl.len{w:World}{u:Value}{l:List α}(h:Y.Sl w u l):∃a c,u=.slice a l.length c:=by
 rcases h with⟨rfl,rfl⟩ | ⟨g,o,cap,xs,rfl,_⟩
 ·exact⟨none,0,rfl⟩
 ·exact⟨_,_,rfl⟩
theorem Ely.Sl.at{w:World}{u:Value}{l:List α}(h:Y.Sl w u l)(hl:0<l.length):∃g o c,u=.slice (some ⟨g,o,none⟩) l.length c∧g<w.heap.size∧∀i j,i<l.length→j<Y.n→w.cell? ⟨g,o+i*Y.n+j,none⟩=(Y.cell (l.getD i Y.z))[j]?:=by
 rcases h with⟨rfl,rfl⟩ | ⟨g,o,cap,xs,rfl,h1,h2,h3⟩
 ·simp at hl
 ·refine⟨g,_,_,rfl,h1.lt,fun i j hi hj=>?_⟩
  rw[Nat.add_assoc];have:=Ely.Sl.cells h1 h2 h3 (i*Y.n+j);have e1:=Y.at l hi hj;unfold Ely.row at e1;rw[List.getElem?_toArray]at e1;have tw:(⟨g,o*Y.n,none⟩:Addr).add (i*Y.n+j)=⟨g,o*Y.n+(i*Y.n+j),none⟩:=by unfold Addr.add;split<;>simp_all
  rw[e1,tw]at this;cases e:(Y.cell (l.getD i Y.z))[j]? with
  | none=>rw[List.getElem?_eq_none_iff,Y.hn]at e;omega
  | some v=>exact this v e
theorem Ely.Sl.new(w:World)(e:α){g:Nat}(hg:g=w.heap.size):Y.Sl (w.alloc (.cells (Y.cell e).toArray Y.t)) (.slice (some ⟨g,0,none⟩) 1 1) [e]:=by
 subst hg;refine .inr ⟨w.heap.size,0,1,[e],by simp,?_,by simp,by simp⟩;have:=IsC.new w (Y.cell e).toArray Y.t;simpa [Ely.row] using this
theorem Ely.wpApp(Y:Ely α){ops:Array Oper}{rest:List Oper}{o:Oper}{a:Act}{Q:Exit→Act→World→Prop}(ik:o.guard=none)(s x:Operand)
  (ho:o.op=.call {callee:=.builtin .append,args:=#[s,x],argTypes:=#[Y.s,Y.s]})
  {base:Nat} {w:World} {u vx:Value} {l vs:List α} (ap:Y.Own base w u l) (hs:a.eval s=u) (hx:a.eval x=vx) (Rz:Y.Sl w vx vs) (hl:l.length+vs.length≤1000000) (hb:base≤w.heap.size)
  (h:∀u' w',Y.Own base w' u' (l++vs)→Below base w w'→Frm (fun k=>base≤k∧∃cs,IsC w k cs Y.t) w w'→wpList Tryz.prog ops Q rest (a.put o.dst u') w'):
  wpList Tryz.prog ops Q (o :: rest) a w:=by
 obtain⟨ag,junk,rfl,h1,h2⟩:=ap;obtain⟨u',W',a',junk',hr,rfl,k1,k2,k3⟩:=Y.append ag l junk vs vx w h1 Rz hl;have k4:Frm (fun k=>base≤k∧∃cs,IsC w k cs Y.t) w W':=k3.wide fun k _ e=>⟨h2 k e,_,h1.arr k e⟩;refine cG ik _ _ _ _ ho _ _ hs hx _ _ (hr _) (h _ _ ⟨a',junk',by simp,k1,fun g e=>?_⟩ (k3.below hb fun k e=>h2 k e) k4);rcases k2 g e with q | q
 ·exact h2 g q
 ·omega
theorem Ely.wpApp1(Y:Ely α){ops:Array Oper}{rest:List Oper}{o:Oper}{a:Act}{Q:Exit→Act→World→Prop}(ik:o.guard=none)(s x:Operand)
  (ho:o.op=.call {callee:=.builtin .append,args:=#[s,x],argTypes:=#[Y.s,Y.s]})
  {base:Nat} {w:World} {u:Value} {l:List α} (ap:Y.Own base w u l) (hs:a.eval s=u) (e:α) {cs:Array Value} (hc:cs=(Y.cell e).toArray) (hx:a.eval x=.slice (some ⟨w.heap.size,0,none⟩) 1 1) (hl:l.length<1000000) (hb:base≤w.heap.size)
  (h:∀u' w',Y.Own base w' u' (l++[e])→Below base w w'→Frm (fun k=>base≤k∧∃cs,IsC w k cs Y.t) w w'→wpList Tryz.prog ops Q rest (a.put o.dst u') w'):
  wpList Tryz.prog ops Q (o :: rest) a (w.alloc (.cells cs Y.t)):=by
 subst hc;have hB:=(bQ w.heap.size w).alloc (nR _) (.cells (Y.cell e).toArray Y.t);refine Y.wpApp ik s x ho (base:=base) (vs:=[e]) (ap.below hB) hs hx (Ely.Sl.new w e rfl) (by simp;omega) (lT hb hB.size) fun u' w' k1 k2 k3=>h u' w' k1 ((hB.mono hb).trans k2) ?_;have k4:Frm (fun k=>base≤k∧∃cs,IsC w k cs Y.t) w (w.alloc (.cells (Y.cell e).toArray Y.t)):=Frm.alloc _ _ _;refine⟨k3.os.trans k4.os,k3.tape.trans k4.tape,k3.output.trans k4.output,lT k4.size k3.size,fun k hk hn=>?_⟩;refine(k3.block k (lL hk k4.size) fun q=>hn ⟨q.1,?_⟩).trans (k4.block k hk hn);obtain⟨cs,iN⟩:=q.2;exact⟨cs,by unfold IsC at *;rw[←mA w _ hk];exact iN⟩
def yE:Ely E3 where
 cell:=aJ
 n:=3
 z:=e0
 zv:=.agg #[.string .empty,.string .empty,.int .i64 0]
 t:=110
 s:=106
 by':=40
 hn:=fun _=>rfl
 hp:=by omega
 one:=fun a v hv=>eD [a] v (by simpa using hv)
 hz:=by kernel_rfl
 us:=Tryz.underlying106
 hb:=by omega
 info:=pJ
theorem dZ{w:World}{u:Value}{l:List E3}(h:yE.Sl w u l)(hl:0<l.length):∃g o c,u=.slice (some ⟨g,o,none⟩) l.length c∧g<w.heap.size∧∀(w':World) (i:Nat),(w'.heap[g]?=w.heap[g]?)→i<l.length→w'.cell? ⟨g,o+i*3,none⟩=some (.string (l.getD i e0).1)∧w'.cell? ⟨g,o+i*3+1,none⟩=some (.string (l.getD i e0).2.1)∧w'.cell? ⟨g,o+i*3+2,none⟩=some (.int .i64 (l.getD i e0).2.2):=by
 obtain⟨g,o,c,rfl,hg,hc⟩:=h.at hl;refine⟨g,o,c,rfl,hg,fun w' i he hi=>?_⟩;have hw:∀k,w'.cell? ⟨g,k,none⟩=w.cell? ⟨g,k,none⟩:=fun k=>by simp[World.cell?,he]
 exact⟨(hw _).trans (hc i 0 hi (by decide)),(hw _).trans (hc i 1 hi (by decide)),(hw _).trans (hc i 2 hi (by decide))⟩
theorem cC{α:Type}(l:List α)(j:Nat)(z:α)(h:j<l.length):l.take (j+1)=l.take j++[l.getD j z]:=by
 rw[List.take_add_one,gD,gE h];rfl
end Go.Proofs.YtaahkgkdpnnhhaaGreat
namespace Go.Proofs.YtaahkgkdpnnhhaaGreat
open Go.RowKit Fo
variable{j l:List Int}{g i:Nat}{w:World}
theorem eR(v:Value)(es:List E3)(i:Nat)(e:E3)(w:World)(hv:yE.Sl w v es)(hi:i<es.length)(hl:es.length≤100):
  Calls Tryz.prog 94 #[v,.int .i64 i,.agg #[.string e.1,.string e.2.1,.int .i64 e.2.2]] w fun r w'=>∃u,r=.returned u∧yE.Own w.heap.size w' u (es.set i e)∧Bl w w':=by
 obtain⟨g,o,c,rfl,hg,aa⟩:=dZ hv (by omega);obtain⟨B,hB⟩:=eZ (w.heap.size);obtain⟨w0,mz⟩:=eZ (w.alloc (.cells #[.string e.1,.string e.2.1,.int .i64 e.2.2] 110));have cw:Bl w w0:=by rw[←mz];exact(bQ w.heap.size w).alloc (nR _) _
 have T9:w0.heap.size=w.heap.size+1:=by rw[←mz];simp
 have bj:=iNw mz hB;go_enter Tryz.func94,Tryz.ntmps94;go_wp2;go_loopw [7,8] (fun u k wr=>∃j:Nat,j≤es.length∧k=.int .i64 j∧yE.Own w0.heap.size wr u ((es.set i e).take j)∧Bl w0 wr) (fun _ k _=>es.length -(intOf k).toNat)
 case atStart=>exact⟨0,by omega,rfl,Ely.Own.lit _ _ (nR _) _ (by omega),(bQ _ _).alloc (nR _) _⟩
 case round=>
  obtain⟨j,hj,rfl,ap,hb⟩:=hrel;have ah:((es.set i e).take j).length<1000000:=by simp;omega
  have bd:=hb.size;by_cases ai:j<es.length
  ·obtain⟨x0,x1,x2⟩:=aa wr j ((hb.block g (lL hg cw.size)).trans (cw.block g hg)) ai
   have dm:(j:Int) <(es.length:Int):=by omega
   have HS:Hid ((es.set i e).take (j+1)=(es.set i e).take j++[if j=i then e else es.getD j e0]):=by
    show _=_
    rw[cC _ _ e0 (by simpa using ai),bB _ _ _ _ _ hi]
   have y0:wr.cell? ⟨B,0,none⟩=some (.string e.1):=(hb.cell (p:=⟨B,_,none⟩) bj.lt).trans (bj.c rfl);have y1:wr.cell? ⟨B,1,none⟩=some (.string e.2.1):=(hb.cell (p:=⟨B,_,none⟩) bj.lt).trans (bj.c rfl);have y2:wr.cell? ⟨B,2,none⟩=some (.int .i64 e.2.2):=(hb.cell (p:=⟨B,_,none⟩) bj.lt).trans (bj.c rfl);generalize es.getD j e0=f at *;generalize (es.set i e).take j=pre at *;by_cases q:j=i
   ·have q':((j:Int) ==(i:Int))=true:=by simp[q]
    rw[if_pos q]at HS;clear q aa;go_wp2_with (first | (at_builtin;refine yE.wpApp1 rfl _ _ rfl ap rfl e rfl rfl ah bd ?_;intro u' w1 k1 k2 k3) | go_in);rw[←HS.out]at k1;go_roundw
    case rel=>exact⟨j+1,by omega,by go_num,k1,hb.trans k2⟩
    case measure=>simp[intOf];omega
   ·have q':((j:Int) ==(i:Int))=false:=by rw[beq_eq_false_iff_ne];omega
    rw[if_neg q]at HS;clear q aa;go_wp2_with (first | (at_builtin;refine yE.wpApp1 rfl _ _ rfl ap rfl f rfl rfl ah bd ?_;intro u' w1 k1 k2 k3) | go_in);rw[←HS.out]at k1;go_roundw
    case rel=>exact⟨j+1,by omega,by go_num,k1,hb.trans k2⟩
    case measure=>simp[intOf];omega
  ·obtain rfl:j=es.length:=by omega
   rw[List.take_of_length_le (by simp)]at ap;go_wp2;go_ret;rw[←hB];exact⟨_,rfl,ap.base (by omega),cw.trans (hb.mono (by omega))⟩
def qC(es:List E3)(i:Nat)(e:E3)(j:Nat):List E3:=if j≤i then es.take j else insE (es.take j) i e
theorem nP(v:Value)(es:List E3)(i:Nat)(e:E3)(w:World)(hv:yE.Sl w v es)(hi:i≤es.length)(hl:es.length≤100):
  Calls Tryz.prog 109 #[v,.int .i64 i,.agg #[.string e.1,.string e.2.1,.int .i64 e.2.2]] w fun r w'=>∃u,r=.returned u∧yE.Own w.heap.size w' u (insE es i e)∧Bl w w':=by
 obtain⟨va,vc,rfl⟩:=hv.len;obtain⟨B,hB⟩:=eZ (w.heap.size);obtain⟨w0,mz⟩:=eZ (w.alloc (.cells #[.string e.1,.string e.2.1,.int .i64 e.2.2] 110));have cw:Bl w w0:=by rw[←mz];exact(bQ w.heap.size w).alloc (nR _) _
 have T9:w0.heap.size=w.heap.size+1:=by rw[←mz];simp
 have bj:=iNw mz hB;have cg:0<es.length→∃g o c,(.slice va es.length vc:Value)=.slice (some ⟨g,o,none⟩) es.length c∧g<w.heap.size∧∀(w':World) (i:Nat),(w'.heap[g]?=w.heap[g]?)→i<es.length→w'.cell? ⟨g,o+i*3,none⟩=some (.string (es.getD i e0).1)∧w'.cell? ⟨g,o+i*3+1,none⟩=some (.string (es.getD i e0).2.1)∧w'.cell? ⟨g,o+i*3+2,none⟩=some (.int .i64 (es.getD i e0).2.2):=fun h=>dZ hv h;clear hv;go_enter Tryz.func109,Tryz.ntmps109;go_wp2;go_loopw [7,8] (fun u k wr=>∃j:Nat,j≤es.length∧k=.int .i64 j∧yE.Own w0.heap.size wr u (qC es i e j)∧Bl w0 wr) (fun _ k _=>es.length -(intOf k).toNat)
 case atStart=>exact⟨0,by omega,rfl,Ely.Own.lit _ _ (nR _) _ (by omega),(bQ _ _).alloc (nR _) _⟩
 case round=>
  obtain⟨j,hj,rfl,ap,hb⟩:=hrel;have bd:=hb.size;have ah:(qC es i e j).length<999990:=by
   unfold qC;split
   ·simp;omega
   ·rw[iK];simp;omega
  have y0:wr.cell? ⟨B,0,none⟩=some (.string e.1):=(hb.cell (p:=⟨B,_,none⟩) bj.lt).trans (bj.c rfl);have y1:wr.cell? ⟨B,1,none⟩=some (.string e.2.1):=(hb.cell (p:=⟨B,_,none⟩) bj.lt).trans (bj.c rfl);have y2:wr.cell? ⟨B,2,none⟩=some (.int .i64 e.2.2):=(hb.cell (p:=⟨B,_,none⟩) bj.lt).trans (bj.c rfl);by_cases ai:j<es.length
  ·obtain⟨g,o,c,he,hg,aa⟩:=cg (by omega)
   cases he
   clear cg;obtain⟨x0,x1,x2⟩:=aa wr j ((hb.block g (lL hg cw.size)).trans (cw.block g hg)) ai;have dm:(j:Int) <(es.length:Int):=by omega
   have HS:Hid (qC es i e (j+1)=(if j=i then qC es i e j++[e]else qC es i e j)++[es.getD j e0]):=by
    show _=_
    have ht:=cC es j e0 ai;unfold qC;by_cases q:j=i
    ·subst q
     rw[if_pos rfl,if_neg (by omega),if_pos (nR _),ht];unfold insE;have FB:(es.take j).length=j:=by simp;omega
     rw[List.take_left' FB,List.drop_left' FB];simp
    ·rw[if_neg q]
     by_cases q2:j<i
     ·rw[if_pos (by omega),if_pos (by omega),ht]
     ·rw[if_neg (by omega),if_neg (by omega),ht]
      unfold insE;rw[List.take_append_of_le_length (by simp;omega),List.drop_append_of_le_length (by simp;omega)];simp
   generalize es.getD j e0=f at *;generalize qC es i e j=pre at *;by_cases q:j=i
   ·have q':((j:Int) ==(i:Int))=true:=by simp[q]
    rw[if_pos q]at HS;have AQ:pre.length<1000000:=by omega
    clear q aa;have uj:(pre++[e]).length<1000000:=by simp;omega
    have hz:∀w1:World,Below w0.heap.size wr w1→w0.heap.size≤w1.heap.size∧w1.cell? ⟨g,o+j*3,none⟩=some (.string f.1)∧w1.cell? ⟨g,o+j*3+1,none⟩=some (.string f.2.1)∧w1.cell? ⟨g,o+j*3+2,none⟩=some (.int .i64 f.2.2):=fun w1 k2=>by
     have qp:w1.heap[g]?=wr.heap[g]?:=k2.block g (lL hg cw.size);exact⟨(hb.trans k2).size,by rw[←x0];simp[World.cell?,qp],by rw[←x1];simp[World.cell?,qp],by rw[←x2];simp[World.cell?,qp]⟩
    go_wp2_with (first | (at_builtin;refine yE.wpApp1 rfl _ _ rfl ap rfl e rfl rfl AQ bd ?_;intro u' w1 k1 k2 k3;obtain⟨fq,z0,z1,z2⟩:=hz w1 k2;clear ap hz) | (at_builtin;refine yE.wpApp1 rfl _ _ rfl k1 rfl f rfl rfl uj fq ?_;intro u2 w2 m1 m2 m3) | go_in)
    have ao:=hb.trans k2;rw[←HS.out]at m1;go_roundw
    case rel=>exact⟨j+1,by omega,by go_num,m1,ao.trans m2⟩
    case measure=>simp[intOf];omega
   ·have q':((j:Int) ==(i:Int))=false:=by rw[beq_eq_false_iff_ne];omega
    rw[if_neg q]at HS;have AQ:pre.length<1000000:=by omega
    clear q aa;go_wp2_with (first | (at_builtin;refine yE.wpApp1 rfl _ _ rfl ap rfl f rfl rfl AQ bd ?_;intro u' w1 k1 k2 k3) | go_in);rw[←HS.out]at k1;go_roundw
    case rel=>exact⟨j+1,by omega,by go_num,k1,hb.trans k2⟩
    case measure=>simp[intOf];omega
  ·obtain rfl:j=es.length:=by omega
   by_cases q:i=es.length
   ·have q':(es.length:Int)≤(i:Int):=by omega
    have HE:Hid (insE es i e=es++[e]):=by subst q;simp[Hid,insE]
    have e1:qC es i e es.length=es:=by unfold qC;rw[if_pos (by omega)];simp
    rw[e1]at ap ah;have AQ:es.length<1000000:=by omega
    clear q cg e1;go_wp2_with (first | (at_builtin;refine yE.wpApp1 rfl _ _ rfl ap rfl e rfl rfl AQ bd ?_;intro u' w1 k1 k2 k3) | go_in);go_ret;rw[←hB];exact⟨_,rfl,by rw[HE.out];exact k1.base (by omega),cw.trans ((hb.trans k2).mono (by omega))⟩
   ·have q':¬(es.length:Int)≤(i:Int):=by omega
    have e1:qC es i e es.length=insE es i e:=by unfold qC;rw[if_neg (by omega)];simp
    rw[e1]at ap;clear q cg e1;go_wp2;go_ret;rw[←hB];exact⟨_,rfl,ap.base (by omega),cw.trans (hb.mono (by omega))⟩
def uO(es:List E3)(i:Nat)(j:Nat):List E3:=if j≤i then es.take j else delE (es.take j) i
theorem uC(v:Value)(es:List E3)(i:Nat)(w:World)(hv:yE.Sl w v es)(hi:i<es.length)(hl:es.length≤100):
  Calls Tryz.prog 96 #[v,.int .i64 i] w fun r w'=>∃u,r=.returned u∧yE.Own w.heap.size w' u (delE es i)∧Bl w w':=by
 obtain⟨g,o,c,rfl,hg,aa⟩:=dZ hv (by omega);go_enter Tryz.func96,Tryz.ntmps96;go_wp2;go_loopw [5,6] (fun u k wr=>∃j:Nat,j≤es.length∧k=.int .i64 j∧yE.Own w.heap.size wr u (uO es i j)∧Bl w wr) (fun _ k _=>es.length -(intOf k).toNat)
 case atStart=>exact⟨0,by omega,rfl,Ely.Own.lit _ _ (nR _) _ (by omega),(bQ _ _).alloc (nR _) _⟩
 case round=>
  obtain⟨j,hj,rfl,ap,hb⟩:=hrel;have bd:=hb.size;by_cases ai:j<es.length
  ·obtain⟨x0,x1,x2⟩:=aa wr j (hb.block g hg) ai
   have ah:(uO es i j).length<1000000:=by
    unfold uO;split
    ·simp;omega
    ·rw[bI _ _ (by simp;omega)];simp;omega
   have dm:(j:Int) <(es.length:Int):=by omega
   have HS:Hid (uO es i (j+1)=if j=i then uO es i j else uO es i j++[es.getD j e0]):=by
    show _=_
    have ht:=cC es j e0 ai;unfold uO;by_cases q:j=i
    ·subst q
     rw[if_pos rfl,if_neg (by omega),if_pos (nR _),ht];unfold delE;have FB:(es.take j).length=j:=by simp;omega
     rw[List.take_left' FB,List.drop_of_length_le (by simp;omega)];simp
    ·rw[if_neg q]
     by_cases q2:j<i
     ·rw[if_pos (by omega),if_pos (by omega),ht]
     ·rw[if_neg (by omega),if_neg (by omega),ht]
      unfold delE;rw[List.take_append_of_le_length (by simp;omega),List.drop_append_of_le_length (by simp;omega)];simp
   generalize es.getD j e0=f at *;generalize uO es i j=pre at *;by_cases q:j=i
   ·have q':((j:Int) ==(i:Int))=true:=by simp[q]
    rw[if_pos q]at HS;clear q aa;go_wp2;go_roundw
    case rel=>exact⟨j+1,by omega,by go_num,by rw[HS.out];exact ap,hb⟩
    case measure=>simp[intOf];omega
   ·have q':((j:Int) ==(i:Int))=false:=by rw[beq_eq_false_iff_ne];omega
    rw[if_neg q]at HS;clear q aa;go_wp2_with (first | (at_builtin;refine yE.wpApp1 rfl _ _ rfl ap rfl f rfl rfl ah bd ?_;intro u' w1 k1 k2 k3) | go_in);rw[←HS.out]at k1;go_roundw
    case rel=>exact⟨j+1,by omega,by go_num,k1,hb.trans k2⟩
    case measure=>simp[intOf];omega
  ·obtain rfl:j=es.length:=by omega
   have e1:uO es i es.length=delE es i:=by unfold uO;rw[if_neg (by omega)];simp
   rw[e1]at ap;go_wp2;go_ret;exact⟨_,rfl,ap,hb⟩
theorem mO(v v':Value)(es fs:List E3)(w:World)(hv:yE.Sl w v es)(np:yE.Sl w v' fs)(hl:es.length≤100)(Au:fs.length≤100):
  Calls Tryz.prog 108 #[v,v'] w fun r w'=>∃u,r=.returned u∧yE.Own w.heap.size w' u (es++fs)∧Bl w w':=by
 have cg:0<es.length→_:=fun h=>dZ hv h;have CX:0<fs.length→_:=fun h=>dZ np h;obtain⟨va,vc,rfl⟩:=hv.len;obtain⟨va',vc',rfl⟩:=np.len;clear hv np;go_enter Tryz.func108,Tryz.ntmps108;go_wp2;go_loopw [5,6] (fun u k wr=>∃j:Nat,j≤es.length∧k=.int .i64 j∧yE.Own w.heap.size wr u (es.take j)∧Bl w wr) (fun _ k _=>es.length -(intOf k).toNat)
 case atStart=>exact⟨0,by omega,rfl,Ely.Own.lit _ _ (nR _) _ (by omega),(bQ _ _).alloc (nR _) _⟩
 case round=>
  obtain⟨j,hj,rfl,ap,hb⟩:=hrel;have bd:=hb.size;by_cases ai:j<es.length
  ·obtain⟨g,o,c,he,hg,aa⟩:=cg (by omega)
   cases he
   obtain⟨x0,x1,x2⟩:=aa wr j (hb.block g hg) ai;have ah:(es.take j).length<1000000:=by simp;omega
   have dm:(j:Int) <(es.length:Int):=by omega
   have HS:Hid (es.take (j+1)=es.take j++[es.getD j e0]):=cC es j e0 ai;generalize es.getD j e0=f at *;generalize es.take j=pre at *;clear cg CX aa;go_wp2_with (first | (at_builtin;refine yE.wpApp1 rfl _ _ rfl ap rfl f rfl rfl ah bd ?_;intro u' w1 k1 k2 k3) | go_in);rw[←HS.out]at k1;go_roundw
   case rel=>exact⟨j+1,by omega,by go_num,k1,hb.trans k2⟩
   case measure=>simp[intOf];omega
  ·obtain rfl:j=es.length:=by omega
   rw[List.take_of_length_le (nR _)]at ap;obtain⟨w0,mz⟩:∃w0,w0=wr:=⟨_,rfl⟩;rw[←mz]at ap hb bd;have HW:Hid (w0=wr):=mz;clear mz cg;go_wp2;rw[←HW.out];go_loopw [5,7] (fun u k wr=>∃j:Nat,j≤fs.length∧k=.int .i64 j∧yE.Own w.heap.size wr u (es++fs.take j)∧Bl w wr) (fun _ k _=>fs.length -(intOf k).toNat)
   case atStart=>exact⟨0,by omega,rfl,by simpa using ap,hb⟩
   case round=>
    clear ap hb bd;obtain⟨j,hj,rfl,ap,hb⟩:=hrel;have bd:=hb.size;by_cases ai:j<fs.length
    ·obtain⟨g,o,c,he,hg,aa⟩:=CX (by omega)
     cases he
     obtain⟨x0,x1,x2⟩:=aa wr j (hb.block g hg) ai;have ah:(es++fs.take j).length<1000000:=by simp;omega
     have dm:(j:Int) <(fs.length:Int):=by omega
     have HS:Hid (es++fs.take (j+1)=es++fs.take j++[fs.getD j e0]):=by show _=_;rw[cC fs j e0 ai,List.append_assoc]
     generalize fs.getD j e0=f at *;generalize es++fs.take j=pre at *;clear CX aa;go_wp2_with (first | (at_builtin;refine yE.wpApp1 rfl _ _ rfl ap rfl f rfl rfl ah bd ?_;intro u' w1 k1 k2 k3) | go_in);rw[←HS.out]at k1;go_roundw
     case rel=>exact⟨j+1,by omega,by go_num,k1,hb.trans k2⟩
     case measure=>simp[intOf];omega
    ·obtain rfl:j=fs.length:=by omega
     rw[List.take_of_length_le (nR _)]at ap;clear CX;go_wp2;go_ret;exact⟨_,rfl,ap,hb⟩
theorem rS{t:TypeId}{z:Value}{n b:Nat}(h:(Tryz.prog.info? t).map (fun i=>(i.zero,i.size,i.bytes))=some (some z,n,b)):∃i,Tryz.prog.info? t=some i∧i.size=n∧i.bytes=b∧i.zero=some z:=by
 cases e:Tryz.prog.info? t with
 | none=>rw[e]at h;cases h
 | some i=>
  rw[e]at h;simp only[Option.map_some,sJ,Prod.mk.injEq]at h;exact⟨i,rfl,h.2.1,h.2.2,h.1⟩
def y64:Ely Int where
 cell:=fun z=>[.int .i64 z]
 n:=1
 z:=0
 zv:=.int .i64 0
 t:=2
 s:=24
 by':=8
 hn:=fun _=>rfl
 hp:=by omega
 one:=fun a v hv=>by simp only[List.mem_singleton]at hv;subst hv;rfl
 hz:=by kernel_rfl
 us:=Tryz.underlying24
 hb:=by omega
 info:=rS rR
def yT:Ely (Int×Int) where
 cell:=aT
 n:=2
 z:=(0,0)
 zv:=.agg #[.int .i64 0,.int .i64 0]
 t:=77
 s:=55
 by':=16
 hn:=fun _=>rfl
 hp:=by omega
 one:=fun a v hv=>lM [a] v (by simpa using hv)
 hz:=by kernel_rfl
 us:=Tryz.underlying55
 hb:=by omega
 info:=aCS
abbrev NV:=Int×Option Addr×Nat×Nat
def aCJ(d:NV):List Value:=[.int .i64 d.1,.slice d.2.1 d.2.2.1 d.2.2.2]
def yN:Ely NV where
 cell:=aCJ
 n:=2
 z:=(0,none,0,0)
 zv:=.agg #[.int .i64 0,.slice none 0 0]
 t:=108
 s:=54
 by':=32
 hn:=fun _=>rfl
 hp:=by omega
 one:=fun a v hv=>by simp only[aCJ,List.mem_cons,List.not_mem_nil,or_false]at hv;rcases hv with rfl | rfl<;>rfl
 hz:=by kernel_rfl
 us:=Tryz.underlying54
 hb:=by omega
 info:=rS (by kernel_rfl)
theorem aKT(l:List Int):y64.row l=dD l:=by
 unfold Ely.row dD;congr 1;induction l with
 | nil=>rfl
 | cons a l ih=>simp only[List.flatMap_cons,List.map_cons,ih];rfl
theorem kJ(h:IsC w g (y64.row (l++j)) 2)(hi:i<l.length):w.cell? ⟨g,i,none⟩=some (.int .i64 (l.getD i 0)):=by
 rw[h.cell];have:=y64.at (l++j) (i:=i) (j:=0) (by simp;omega) (by decide);have e:i*y64.n+0=i:=by show i*1+0=i;omega
 rw[e]at this;rw[this,cM,if_pos hi];rfl
theorem oJ(h:IsC w g (y64.row (l++j)) 2)(hi:i<l.length)(v:Int):IsC (w.setCell ⟨g,i,none⟩ (.int .i64 v)) g (y64.row (l.set i v++j)) 2:=by
 have:=h.set i (.int .i64 v)
 rw[aKT]at this ⊢;have e:(dD (l++j)).setIfInBounds i (.int .i64 v)=dD (l.set i v++j):=by
  unfold dD;rw[List.setIfInBounds_toArray,←List.map_set,List.set_append_left _ _ hi]
 rw[e]at this;exact this
theorem Ely.Sl.nts{u:Value}(h:y64.Sl w u l)(hz:∀i,0≤l.getD i 0∧l.getD i 0≤2000000):Nts w u l:=by
 obtain⟨a,c,rfl⟩:=h.len;refine⟨fun i=>by have:=hz i;omega,_,_,rfl,fun hl=>?_⟩;obtain⟨g,o,c',e,hg,hc⟩:=h.at hl;cases e;refine⟨g,o,rfl,fun i hi=>?_⟩;have:=hc i 0 hi (by decide);have e:o+i*y64.n+0=o+i:=by show o+i*1+0=o+i;omega
 rw[e]at this;exact this
structure Is2(u u':Value)(w w':World):Prop where
 u:u=u'
 w:w=w'
theorem vC(v:Value)(es:List E3)(key:ByteArray)(w:World)(hv:yE.Sl w v es)(hl:es.length≤100):
  Calls Tryz.prog 93 #[v,.string key] w fun r w'=>r=.returned (.int .i64 (nH es key es.length))∧w'=w:=by
 have cg:0<es.length→_:=fun h=>dZ hv h;obtain⟨va,vc,rfl⟩:=hv.len;clear hv;go_enter Tryz.func93,Tryz.ntmps93;go_wp2;go_loopw [5,6] (fun u k wr=>∃j:Nat,j≤es.length∧k=.int .i64 j∧Is2 u (.int .i64 (nH es key j)) wr w) (fun _ k _=>es.length -(intOf k).toNat)
 case atStart=>exact⟨0,by omega,rfl,⟨rfl,rfl⟩⟩
 case round=>
  obtain⟨j,hj,rfl,HR⟩:=hrel;obtain⟨rfl,rfl⟩:=HR;by_cases ai:j<es.length
  ·obtain⟨g,o,c,he,hg,aa⟩:=cg (by omega)
   cases he
   obtain⟨x0,x1,x2⟩:=aa wr j rfl ai;have dm:(j:Int) <(es.length:Int):=by omega
   have HS:Hid (nH es key (j+1)=if kl key (ky es j)=true then nH es key j else j):=rfl;have HK:Hid (kl key (ky es j)=Op.bytesLess key.toList (es.getD j e0).1.toList):=rfl;clear cg aa;generalize (es.getD j e0).1=x at *;by_cases hq:Op.bytesLess key.toList x.toList=true
   ·rw[HK.out,if_pos hq]at HS
    have q1:Op.bytesLess x.toList key.toList=false:=eN (a:=key) (b:=x) hq;have q2:(x.toList == key.toList)=false:=by
     rw[beq_eq_false_iff_ne];intro e;rw[e,oP]at hq;cases hq
    clear hq;go_wp2;go_roundw
    case rel=>exact⟨j+1,by omega,by go_num,⟨by rw[HS.out],rfl⟩⟩
    case measure=>simp[intOf];omega
   ·rw[HK.out,if_neg hq]at HS
    have LC:kl key x=false:=Bool.eq_false_iff.2 hq;clear hq;rcases jZ LC with q | q
    ·have q1:Op.bytesLess x.toList key.toList=false:=by rw[q];exact oP _
     have q2:(x.toList == key.toList)=true:=by rw[q];exact beq_self_eq_true _
     clear q LC;go_wp2;go_roundw
     case rel=>exact⟨j+1,by omega,by go_num,⟨by rw[HS.out],rfl⟩⟩
     case measure=>simp[intOf];omega
    ·have q1:Op.bytesLess x.toList key.toList=true:=q
     clear q LC;go_wp2;go_roundw
     case rel=>exact⟨j+1,by omega,by go_num,⟨by rw[HS.out],rfl⟩⟩
     case measure=>simp[intOf];omega
  ·obtain rfl:j=es.length:=by omega
   clear cg;go_wp2;go_ret;exact⟨rfl,rfl⟩
theorem pM(n:Nat)(hn:n≤512)(w:World):Calls Tryz.prog 53 #[.int .i64 n] w fun e w'=>∃u,e=.returned u∧y64.Own w.heap.size w' u (List.replicate n 0)∧Bl w w':=by
 go_enter Tryz.func53,Tryz.ntmps53
 go_wp2
 go_loopw [3,4] (fun u i wr=>∃k:Nat,k≤n∧i=.int .i64 k∧y64.Own w.heap.size wr u (List.replicate k 0)∧Bl w wr) (fun _ i _=>n -(intOf i).toNat)
 case atStart=>exact⟨0,Nat.zero_le _,rfl,Ely.Own.lit _ _ (nR _) _ rfl,(bQ _ _).alloc (nR _) _⟩
 case round=>
  obtain⟨k,hk,rfl,ap,hb⟩:=hrel;have bd:=hb.size;by_cases ai:k<n
  ·have lq:(k:Int) <(n:Int):=by omega
   have FR:Hid (List.replicate (k+1) (0:Int)=List.replicate k 0++[0]):=List.replicate_succ';have te:(List.replicate k (0:Int)).length<1000000:=by simp;omega
   generalize List.replicate k (0:Int)=ys at *;go_wp2_with (first | (at_builtin;refine y64.wpApp1 rfl _ _ rfl ap rfl 0 rfl rfl te bd ?_;intro v' w1 eo di k3) | go_in);rw[←FR.out]at eo;go_roundw
   case rel=>exact⟨k+1,by omega,by go_num,eo,hb.trans di⟩
   case measure=>simp[intOf];omega
  ·obtain rfl:k=n:=by omega
   go_wp2
   go_ret
   exact⟨_,rfl,ap,hb⟩
end Go.Proofs.YtaahkgkdpnnhhaaGreat
namespace Go.Proofs.YtaahkgkdpnnhhaaGreat
open Go.RowKit Go.Shelf Fo
variable{left:Lit→Bool}{b cnt m r:Nat}{φ:Nat→Option Nat}{w w':World}
theorem aDG{α:Type}:∀{L K:List α},L.Nodup→(∀x∈L,x∈K)→K.length≤L.length→∀x∈K,x∈L:=by
 classical
 intro L;induction L with
 | nil=>intro K _ _ h x hx;have:K=[]:=List.length_eq_zero_iff.1 (by simpa using h);rw[this]at hx;exact hx
 | cons a L ih=>
  intro K hn hs hl x hx;have ha:a∈K:=hs a (by simp);by_cases e:x=a
  ·simp[e]
  ·have ah:=List.length_erase_of_mem ha
   have cg:=List.length_pos_of_mem ha;refine List.mem_cons_of_mem _ (ih (K:=K.erase a) (List.nodup_cons.1 hn).2 (fun y hy=>?_) (by simp at hl;omega) x ((List.mem_erase_of_ne e).2 hx));exact(List.mem_erase_of_ne (fun q=>(List.nodup_cons.1 hn).1 (by rw[←q];exact hy))).2 (hs y (List.mem_cons_of_mem _ hy))
theorem aHQ(φ:Nat→Option Nat):∀n,((List.range n).filter fun b=>(φ b).isSome).length=cQ n fun b=>if(φ b).isSome then 1 else 0
 | 0=>rfl
 | n+1=>by
  rw[List.range_succ,List.filter_append,lP,aHQ φ n];simp only[cQ];cases h:(φ n).isSome<;>simp[h]
theorem dP.keys(h:dP w m φ):∃D,w.ownsMap Tryz.prog 2 sT m (Maps.size D) D∧(∀b,b<512→Maps.has D (kB b)=(φ b).isSome)∧∀kl,Maps.has D kl=true→∃b,b<512∧kl=kB b∧(φ b).isSome=true:=by
 obtain⟨D,h1,h2,h3,_⟩:=h;refine⟨D,h1,h3,fun kl hk=>?_⟩;obtain⟨es,rfl,T3,mu⟩:=h1.entries gC;have hL:(((List.range 512).filter fun b=>(φ b).isSome).map kB).Nodup:=by
  refine List.pairwise_map.2 (List.Pairwise.imp (R:=fun a b=>a≠b) (fun {a b} av e=>av (oU e)) ?_);exact List.Pairwise.filter _ List.nodup_range
 have hs:=aDG (L:=((List.range 512).filter fun b=>(φ b).isSome).map kB) (K:=es.map (·.1)) hL (fun x hx=>by
  obtain⟨b,hb,rfl⟩:=List.mem_map.1 hx;obtain⟨ao,ba⟩:=List.mem_filter.1 hb;have:=h3 b (by simpa using ao);rw[ba,Maps.has_eq,List.any_eq_true]at this;obtain⟨p,hp,LB⟩:=this;exact List.mem_map.2 ⟨p,hp,WideAt.sameKey_eq LB⟩) (by
  rw[List.length_map,List.length_map,aHQ φ 512];exact Nat.le_of_eq h2)
 rw[Maps.has_eq,List.any_eq_true]at hk;obtain⟨p,hp,LB⟩:=hk;have:=hs p.1 (List.mem_map.2 ⟨p,hp,rfl⟩);rw[WideAt.sameKey_eq LB]at this;obtain⟨b,hb,e⟩:=List.mem_map.1 this;obtain⟨ao,ba⟩:=List.mem_filter.1 hb;exact⟨b,by simpa using ao,e.symm,ba⟩
theorem vI{H:Type}{P:Program}{k:TypeId}{R:Value→Option (DataW H×List MemPlace)}{n:Nat}{D:DataW H}(h:w.ranges P k R b r n D left cnt)(hb:w'.heap[b]?=w.heap[b]?)(hr:w'.heap[r]?=w.heap[r]?):w'.ranges P k R b r n D left cnt:=by
 obtain⟨es,cl,si,se,c0,q1,q2,q3,q4,q5,q6⟩:=h;exact⟨es,cl,si,se,c0,hb.trans q1,q2,q3,q4,hr.trans q5,q6⟩
theorem aBQ{base:Nat}{u:Value}{l:List Int}(h:y64.Own base w u l)(hl:l.length≤1000000):Calls Tryz.prog 156 #[u] w fun e w'=>e=.returned (.tuple #[])∧Frm (fun k=>base≤k) w w':=by
 obtain⟨ag,jk,rfl,d5,ll⟩:=h;by_cases h0:l.length=0
 ·rw[h0]
  refine(AnyG.slices_Sort_int_none Tryz.sort64 _ _ w).mono ?_;rintro e w' ⟨rfl,rfl⟩;exact⟨rfl,Frm.refl _ _⟩
 ·obtain⟨g,rfl⟩:∃g,ag=some g:=by
   cases ag with
   | none=>have:=(d5.nil rfl).1;rw[this]at h0;simp at h0
   | some g=>exact⟨g,rfl⟩
  have ha:=d5.arr g rfl;have QI:=ll g rfl;have hH:Sort.Holds (Value.int .i64) w g 0 l.toArray:=fun j hj=>by
   have yf:j<l.length:=by simpa using hj
   rw[Nat.zero_add];refine⟨?_,ha.frozen j⟩;rw[kJ ha yf];simp[gD,yf,getElem!_pos,hj]
  refine(AnyG.slices_Sort_int Tryz.sort64 g 0 (l.length+jk.length) l w hH ha.lt (by omega)).mono ?_;rintro e w' ⟨rfl,n,os,rfl⟩;refine⟨rfl,rfl,rfl,rfl,by simp,fun k hk hn=>?_⟩;have Cy:k≠g:=fun q=>hn (by rw[q];exact QI);show((Sort.putRow (Value.int .i64) (Sort.ahead w n) g 0 _).heap++os)[k]?=_
  rw[Array.getElem?_append_left (by simpa using hk)];simp[Sort.putRow,Sort.mapBlock,Array.getElem?_modify,Cy,Ne.symm Cy]
structure DyI(w:World)(m r:Nat)(D:DataW Unit)(φ:Nat→Option Nat)(f:fZ)(v:Value)(wr:World)(left:Lit→Bool)(cnt:Nat)(L:List Nat):Prop where
 rg:wr.ranges Tryz.prog 2 sT m r (Maps.size D) D left cnt
 own:y64.Own (w.heap.size+1) wr v (L.map fun x:Nat=>(x:Int))
 nd:L.Nodup
 mem:∀x,x∈L↔(x<512∧(φ x).isSome=true∧co f x=0∧left (kB x)=false)
 lf:∀kl,left kl=true→Maps.has D kl=true
 bel:Bl w wr
 len:L.length≤512
theorem DyI.step{wr:World}{D:DataW Unit}{f:fZ}{v:Value}{cnt':Nat}{L:List Nat}(h:DyI w m r D φ f v wr left cnt L)(hr:r=w.heap.size)(hg:wr.grownBy w' (some r))(CY:w'.ranges Tryz.prog 2 sT m r (Maps.size D) D (fun z=>left z && !z.sameKey (kB b)) cnt')(hb:b<512)(hφ:(φ b).isSome=true)(RG:left (kB b)=true):
  (co f b≠0→DyI w m r D φ f v w' (fun z=>left z && !z.sameKey (kB b)) cnt' L)∧(co f b=0→(L++[b]).Nodup∧(∀x,x∈L++[b]↔(x<512∧(φ x).isSome=true∧co f x=0∧(left (kB x) && !(kB x).sameKey (kB b))=false))∧(L++[b]).length≤512)∧y64.Own (w.heap.size+1) w' v (L.map fun x:Nat=>(x:Int))∧Bl w w':=by
 have hk:=gC.key (yY b hb);have hF:Frm (fun k=>k=r) wr w':=⟨hg.os,hg.tape,hg.output,hg.size,fun k hk hn=>hg.block k hk fun e=>hn (Option.some.inj e)⟩;have hO:y64.Own (w.heap.size+1) w' v (L.map fun x:Nat=>(x:Int)):=h.own.frm hF (fun g hg e=>by omega);have hB:Bl w w':=h.bel.trans (hF.below h.bel.size fun g e=>by omega);have CO:b∉L:=fun q=>by have:=((h.mem b).1 q).2.2.2;rw[RG]at this;cases this
 have ws:∀x,(kB x).sameKey (kB b)=decide (x=b):=fun x=>by
  by_cases e:x=b
  ·subst e;rw[WideAt.sameKey_self hk];simp
  ·rw[Maps.sameKey_ne (fun q=>e (oU q))];simp[e]
 refine⟨fun hc=>⟨CY,hO,h.nd,fun x=>?_,fun kl q=>h.lf kl (by simp at q;exact q.1),hB,h.len⟩,fun hc=>⟨?_,fun x=>?_,?_⟩,hO,hB⟩
 ·rw[h.mem x,ws x]
  by_cases e:x=b
  ·subst e;simp[hc]
  ·simp[e]
 ·refine List.nodup_append.2 ⟨h.nd,by simp,fun a ha c bo=>?_⟩
  simp at bo;subst bo;exact fun e=>CO (e▸ha)
 ·rw[List.mem_append,h.mem x,ws x]
  by_cases e:x=b
  ·subst e;simp[hc,hb,hφ]
  ·simp[e]
 ·have hn:(L++[b]).Nodup:=by
   refine List.nodup_append.2 ⟨h.nd,by simp,fun a ha c bo=>?_⟩;simp at bo;subst bo;exact fun e=>CO (e▸ha)
  have hs:∀x∈L++[b],x∈List.range 512:=fun x hx=>by
   rcases List.mem_append.1 hx with q | q
   ·simpa using ((h.mem x).1 q).1
   ·simp at q;subst q;simpa using hb
  refine Nat.le_of_not_lt fun ai=>?_;have h3:=aDG hn hs (by simp at ai ⊢;omega);have h4:=List.nodup_range (n:=512);have h5:(List.range 512).Perm (L++[b]):=(List.perm_ext_iff_of_nodup h4 hn).2 fun x=>⟨h3 x,hs x⟩;have:=h5.length_eq;simp at this ai;omega
theorem aGK(w:World)(ρ:Nat→Nat)(P:Nat)(A:Adr)(f:fZ)(J:List aQ)(h:St w ρ P A f J)(hI:Inv f):
  Calls Tryz.prog 147 #[.pointer (some ⟨P,0,none⟩)] w fun e w'=>∃a c,e=.returned (.slice a (dT f) c)∧Bl w w':=by
 obtain⟨_,_,_,hR,_⟩:=id h;have y3:w.cell? ⟨P,3,none⟩=some (.map (some A.m)):=by rw[hR.hP.cell];rfl
 obtain⟨D,Gc,VO,Sy⟩:=hR.hm.keys;have zo:Hid (∀L:List Nat,L.Nodup→(∀x,x∈L↔(x<512∧(A.φ x).isSome=true∧co f x=0))→L.length=dT f):=fun L hn hm=>aDV hn fun x=>by
  rw[hm x];have RJ:(A.φ x).isSome=true↔0<cu f x:=by
   constructor
   ·intro q
    cases e:f.nodes x with
    | none=>rw[hR.no x e]at q;cases q
    | some d=>exact hI.ic.cu_pos e
   ·intro q
    obtain⟨d,hd⟩:=hI.ic.live q;obtain⟨q',hq,_⟩:=hR.nd x d hd;rw[hq];rfl
  rw[RJ];constructor
  ·rintro⟨_,a,b⟩
   obtain⟨d,hd⟩:=hI.ic.live a;exact⟨hI.ic.lt hd,a,b⟩
  ·rintro⟨a,b,c⟩
   exact⟨by have:=hI.ic.n512;omega,b,c⟩
 have DC:Hid (∀(wr:World) (b:Nat),Bl w wr→b<512→(A.φ b).isSome=true→b<f.com.length∧wr.cell? ⟨A.d,b,none⟩=some (.int .i64 (co f b))):=fun wr b hb et hq=>by
  have ai:b<f.com.length:=by
   cases e:f.nodes b with
   | none=>rw[hR.no b e]at hq;cases hq
   | some d=>rw[hI.ic.len];exact hI.ic.lt e
  refine⟨ai,?_⟩;rw[hb.cell (p:=⟨A.d,b,none⟩) hR.hd.lt,hR.hd.cell];simp[jG,co,ai,List.getElem?_append]
 have Uq:Hid (∀wr:World,Bl w wr→wr.cell? ⟨P,5,none⟩=some (.slice (some ⟨A.d,0,none⟩) f.com.length (f.com.length+A.dj.length))):=fun wr hb=>by
  rw[hb.cell (p:=⟨P,5,none⟩) hR.hP.lt,hR.hP.cell];rfl
 have Tz:=hR.hm.lt;clear hR h;go_enter Tryz.func147,Tryz.ntmps147;go_wp2_with (first | (at_range;refine wpList_range_own _ rfl _ 68 rfl 2 112 gC Tryz.underlying68 sT A.m (Maps.size D) D rfl Gc ?_;intro w0 Rh vm T9) | go_in);go_frame;have gz:Bl w w0:=⟨vm.os,vm.tape,vm.output,vm.size,fun k hk=>vm.block k hk (by simp)⟩;go_loopw [3,4] (fun v _ wr=>∃left cnt L,DyI w A.m w.heap.size D A.φ f v wr left cnt L) (fun _ _ wr=>wr.rangeLeft A.m w.heap.size)
 case atStart=>exact⟨_,_,[],Rh,Ely.Own.nil _ _,List.nodup_nil,fun x=>⟨fun q=>absurd q (by simp),fun q=>by have:=VO x q.1;rw[q.2.2.2,q.2.1]at this;cases this⟩,fun _ q=>q,gz,by simp⟩
 case round=>
  obtain⟨left,cnt,L,hY⟩:=hrel;have CY:=hY.rg;go_wp2_with (first | (at_next;refine wpList_next_ranges _ rfl _ rfl 2 gC sT (Value.int .i64) eT (fun key kl hk=>by obtain⟨x,rfl,_⟩:=Maps.keyOf_int_inv Tryz.underlying2 hk;exact⟨x,rfl⟩) (fun v y hv=>by rcases zO (d:=y.1) (ps:=y.2) hv with⟨rfl,_⟩ | ⟨q,rfl,_⟩;exact⟨none,rfl⟩;exact⟨some q,rfl⟩) A.m w.heap.size _ _ _ _ rfl CY ?_ ?_) | go_in)
  ·intro _ pf
   have ah:=zo.out L hY.nd (fun x=>by rw[hY.mem x,pf];simp);have hO:=hY.own;have BU:=hY.bel;obtain⟨ua,uc,Ek⟩:=hO.sl.len;have HL:Hid ((L.map fun x:Nat=>(x:Int)).length=dT f):=by rw[List.length_map];exact ah
   rw[HL.out]at Ek;subst Ek;have Gx:=hY.len;clear CY hY ah;go_wp2_with fail;refine(aBQ hO (by rw[List.length_map];omega)).mono ?_;rintro e w2 ⟨rfl,du⟩;have db:Bl w w2:=BU.trans (du.below BU.size fun g hg=>by omega);go_wp2;go_ret;exact⟨_,_,rfl,db⟩
  ·intro x c kl yd yp w1 cnt1 Ms gx hv jt Eb ai iv jx YC
   obtain⟨x',ex,rfl,_⟩:=Maps.keyOf_int_inv Tryz.underlying2 Ms;obtain rfl:x=x':=by simpa using ex
   obtain⟨b,et,Fr,Te⟩:=Sy _ (hY.lf _ gx);obtain rfl:x=(b:Int):=by simpa [kB] using Fr
   obtain⟨k1,k2,k3,k4⟩:=hY.step rfl (b:=b) iv Eb et Te gx;obtain⟨nz,x1⟩:=DC.out w1 b k4 et Te;have x2:=Uq.out w1 k4;have DN:(b:Int) <(f.com.length:Int):=by omega
   have te:(L.map fun x:Nat=>(x:Int)).length<1000000:=by have:=hY.len;simp;omega
   have fq:w.heap.size+1≤w1.heap.size:=by
    have:=Eb.lt;omega
   have CV:=CY.left_eq;have M0:A.m<w.heap.size+1:=by omega
   obtain⟨y,hy⟩:=eZ (co f b);rw[hy]at k1 k2 x1;have HY:=aA hY;have Ns:=aA k1;have Uf:=aA k2;clear hY k1 k2 Ms jt hv Fr CY Sy jx;by_cases hc:y=0
   ·obtain⟨n1,n2,n3⟩:=Uf.out hc
    go_wp2_with (first | (at_builtin;refine y64.wpApp1 rfl _ _ rfl k3 rfl (b:Int) rfl rfl te fq ?_;intro v' w3 eo di k5) | go_in)
    go_roundw
    case rel=>
     refine⟨_,cnt1,L++[b],vI Eb (di.block _ M0) (di.block _ (by omega)),by simpa using eo,n1,n2,fun kl q=>HY.out.lf kl (by simp at q;exact q.1),k4.trans (di.mono (by omega)),n3⟩
    case measure=>
     rw[CV,(vI Eb (di.block _ M0) (di.block _ (by omega))).left_eq];exact ai
   ·go_wp2
    go_roundw
    case rel=>exact⟨_,cnt1,L,Ns.out hc⟩
    case measure=>rw[CV,Eb.left_eq];exact ai
