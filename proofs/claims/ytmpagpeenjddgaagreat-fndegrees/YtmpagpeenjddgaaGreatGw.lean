import Derived.Test.YtmpagpeenjddgaaGreatHq16
import Derived.Test.YtmpagpeenjddgaaGreatFo31
set_option maxHeartbeats 9999999
set_option maxRecDepth 99999
set_option linter.all false
namespace Go.Proofs.YtmpagpeenjddgaaGreat
open Go.RowKit Fo
structure Ely(α:Type) where
 cell:α->List Value
 n:Nat
 z:α
 zv:Value
 t:TypeId
 s:TypeId
 by':Nat
 hn:∀a,(cell a).length=n
 hp:0<n
 one:∀a,∀v∈cell a,v.oneCell'=true
 hz:zv.cells=(cell z).toArray
 us:Tryz.prog.underlying s=some (.slice t)
 hb:0<by'/\by'<=64
 info:∃i,Tryz.prog.info? t=some i/\i.size=n/\i.bytes=by'/\i.zero=some zv
variable {α : Type} (Y : Ely α)
def Ely.row(l:List α):Array Value:=(l.flatMap Y.cell).toArray
theorem Ely.len(l:List α):(l.flatMap Y.cell).length=l.length*Y.n:=by
 induction l with
 | nil=>simp
 | cons e l ih=>simp only[List.flatMap_cons,lP,ih,Y.hn,List.length_cons,Nat.succ_mul];omega
theorem Ely.size(l:List α):(Y.row l).size=l.length*Y.n:=by unfold Ely.row;rw[List.size_toArray,Y.len]
theorem Ely.at(l:List α){i j:Nat}(a:i<l.length)(b:j<Y.n):(Y.row l)[i*Y.n+j]?=(Y.cell (l.getD i Y.z))[j]?:=by
 unfold Ely.row;rw[List.getElem?_toArray];induction l generalizing i with
 | nil=>simp at a
 | cons e l ih=>
  rw[List.flatMap_cons];cases i with
  | zero=>rw[Nat.zero_mul,Nat.zero_add,List.getElem?_append_left (by rw[Y.hn];exact b)];rfl
  | succ i=>
   rw[List.getElem?_append_right (by rw[Y.hn,Nat.succ_mul];omega),Y.hn,show(i+1)*Y.n+j-Y.n=i*Y.n+j by rw[Nat.succ_mul];omega];rw[ih (by simpa using a)];rfl
theorem Ely.ef(l:List α):∀n:Nat,(l.flatMap Y.cell).take (n*Y.n)=(l.take n).flatMap Y.cell:=by
 induction l with
 | nil=>intro n;simp
 | cons e l ih=>
  intro n;cases n with
  | zero=>simp
  | succ n=>rw[List.flatMap_cons,List.take_succ_cons,List.flatMap_cons,List.take_append,Y.hn,List.take_of_length_le (by rw[Y.hn,Nat.succ_mul];omega),show(n+1)*Y.n-Y.n=n*Y.n by rw[Nat.succ_mul];omega,ih]
theorem Ely.dz(l:List α):∀n:Nat,(l.flatMap Y.cell).drop (n*Y.n)=(l.drop n).flatMap Y.cell:=by
 induction l with
 | nil=>intro n;simp
 | cons e l ih=>
  intro n;cases n with
  | zero=>simp
  | succ n=>rw[List.flatMap_cons,List.drop_succ_cons,List.drop_append,Y.hn,List.drop_of_length_le (by rw[Y.hn,Nat.succ_mul];omega),show(n+1)*Y.n-Y.n=n*Y.n by rw[Nat.succ_mul];omega,ih,List.nil_append]
theorem Ely.spl(xs ys:List α)(i:Nat):Go.Proofs.YtmpagpeenjddgaaGreat.spl (xs.flatMap Y.cell) (i*Y.n) (ys.flatMap Y.cell)=(Go.Proofs.YtmpagpeenjddgaaGreat.spl xs i ys).flatMap Y.cell:=by
 unfold Go.Proofs.YtmpagpeenjddgaaGreat.spl;rw[Y.ef,Y.len,<-Nat.add_mul,Y.dz,List.flatMap_append,List.flatMap_append]
theorem Ely.ed(l:List α):∀v∈l.flatMap Y.cell,v.oneCell'=true:=fun v b=>by
 obtain⟨e,_,a⟩:=List.mem_flatMap.1 b;exact Y.one e v a
theorem Ely.c9(m:Nat):Builtin.zeroCells Y.zv.cells m=((List.replicate m Y.z).flatMap Y.cell).toArray:=by
 rw[Y.hz];apply Array.toList_inj.1;refine List.ext_getElem? fun i=>?_;simp only[Builtin.zeroCells,List.size_toArray,Y.hn,Array.toList_map,Array.toList_range,List.getElem?_map];by_cases b:i<m*Y.n
 ·rw[List.getElem?_range b]
  have d:i / Y.n<m:=Nat.div_lt_of_lt_mul (by rw[Nat.mul_comm];exact b);have a:i % Y.n<Y.n:=Nat.mod_lt _ Y.hp;have:=Y.at (List.replicate m Y.z) (i:=i / Y.n) (j:=i % Y.n) (by simpa using d) a;unfold Ely.row at this;rw[List.getElem?_toArray,Nat.div_add_mod']at this;rw[this];have c:(List.replicate m Y.z).getD (i / Y.n) Y.z=Y.z:=by rw[gD,List.getElem?_replicate];split<;>rfl
  rw[c,gE (by rw[Y.hn];exact a)];simp[Y.hn,a]
 ·rw[List.getElem?_eq_none (by simp;omega),List.getElem?_eq_none (by rw[Y.len,List.length_replicate];omega)];rfl
def Ely.Sl(w:World)(v:Value)(l:List α):Prop:=
 (v=.slice none 0 0/\l=[])\/∃g o cap xs,v=sL g (o*Y.n) l.length cap/\IsC w g (Y.row xs) Y.t/\o+l.length<=xs.length/\(xs.drop o).take l.length=l
theorem Ely.Sl.cells{Y:Ely α}{w:World}{g o:Nat}{xs es:List α}(h:IsC w g (Y.row xs) Y.t)(f:o+es.length<=xs.length)(he:(xs.drop o).take es.length=es):∀j v,(es.flatMap Y.cell)[j]?=some v->w.cell? ((⟨g,o*Y.n,none⟩:Addr).add j)=some v:=fun j v a=>by
 have d:(⟨g,o*Y.n,none⟩:Addr).add j=⟨g,o*Y.n+j,none⟩:=by unfold Addr.add;split<;>simp_all
 rw[d,h.cell];have b:Go.Proofs.YtmpagpeenjddgaaGreat.spl (xs.flatMap Y.cell) (o*Y.n) (es.flatMap Y.cell)=xs.flatMap Y.cell:=by
  rw[Y.spl];congr 1;unfold Go.Proofs.YtmpagpeenjddgaaGreat.spl;rw[<-he,List.length_take,List.length_drop,List.append_assoc];rw[show min es.length (xs.length-o)=es.length by omega];rw[<-List.drop_drop,List.take_append_drop,List.take_append_drop]
 have e:j <(es.flatMap Y.cell).length:=(List.getElem?_eq_some_iff.1 a).1;have:(Y.row xs)[o*Y.n+j]?=(xs.flatMap Y.cell)[o*Y.n+j]?:=by simp[Ely.row]
 rw[this,<-b];unfold Go.Proofs.YtmpagpeenjddgaaGreat.spl;have c:((xs.flatMap Y.cell).take (o*Y.n)).length=o*Y.n:=by
  rw[List.length_take,Y.len];have:o*Y.n<=xs.length*Y.n:=Nat.mul_le_mul_right _ (by omega);omega
 rw[List.append_assoc,List.getElem?_append_right (by omega),c,show o*Y.n+j-o*Y.n=j by omega,List.getElem?_append_left e];exact a
theorem Ely.Sl.ae{Y:Ely α}{S:Nat->Prop}{w w':World}{v:Value}{l:List α}(h:Y.Sl w v l)(k:Frm S w w')(f:∀g cs,IsC w g cs Y.t->¬S g):Y.Sl w' v l:=by
 rcases h with h | ⟨g,o,a,xs,c,b,d,e⟩
 ·exact .inl h
 ·exact .inr ⟨g,o,a,xs,c,b.ae k (f g _ b),d,e⟩
theorem Ely.Sl.below{Y:Ely α}{w w':World}{v:Value}{l:List α}(h:Y.Sl w v l)(k:Bl w w'):Y.Sl w' v l:=h.ae (Frm.aa (S:=fun _=>False) k) fun _ _ _=>id
structure Ely.Rw(w:World)(a:Option Nat)(l junk:List α):Prop where
 arr:∀g,a=some g->IsC w g (Y.row (l++junk)) Y.t
 nil:a=none->l=[]/\junk=[]
 small:l.length+junk.length<=maxLen
theorem Ely.Rw.sl{Y:Ely α}{w:World}{a:Option Nat}{l junk:List α}(h:Y.Rw w a l junk):Y.Sl w (.slice (adr a) l.length (l.length+junk.length)) l:=by
 cases a with
 | none=>obtain⟨rfl,rfl⟩:=h.nil rfl;exact .inl ⟨rfl,rfl⟩
 | some g=>exact .inr ⟨g,0,l.length+junk.length,l++junk,by simp[adr],h.arr g rfl,by simp,by simp⟩
theorem Ely.Rw.ae{Y:Ely α}{S:Nat->Prop}{w w':World}{a:Option Nat}{l junk:List α}(h:Y.Rw w a l junk)(k:Frm S w w')(b:∀g,a=some g->¬S g):Y.Rw w' a l junk:=
 ⟨fun g e=>(h.arr g e).ae k (b g e),h.nil,h.small⟩
theorem Ely.e4{need old:Nat}(h:need<=1000000)(a:old<need):Builtin.nextslicecap need old*Y.by'<=281474976710656:=by
 have:=Y.hb
 have b:need*Y.by'<=1000000*64:=Nat.mul_le_mul h this.2;exact growslice_fits (bytes:=Y.by') (need:=need) (old:=old) a (by omega)
theorem Ely.append(a:Option Nat)(es b vs:List α)(v:Value)(W:World)(d:Y.Rw W a es b)(A:Y.Sl W v vs)(F:es.length+vs.length<=1000000):
  ∃u W' a' junk',(∀ty,(Builtin.append_ #[Y.s,Y.s] ty #[.slice (adr a) es.length (es.length+b.length),v]).run Tryz.prog W=.ok u W')/\u=.slice (adr a') (es.length+vs.length) (es.length+vs.length+junk'.length)/\
   Y.Rw W' a' (es++vs) junk'/\(∀g,a'=some g->a=some g\/W.heap.size<=g)/\Frm (fun k=>a=some k) W W':=by
 obtain⟨c,m,i,p,C⟩:=Y.info;have G:=d.small;have l:Src Tryz.prog c.size Y.s v vs.length (vs.flatMap Y.cell) W:=by
  rcases A with⟨rfl,rfl⟩ | ⟨t,o,j,xs,rfl,B,y,x⟩
  ·exact Src.ofNil W Y.us 0
  ·exact Src.ofSlice W Y.us ⟨t,o*Y.n,none⟩ vs.length j _ (by rw[Y.len,i]) (Ely.Sl.cells B y x) (Y.ed vs)
 by_cases D:vs.length<=b.length
 ·cases a with
  | none=>
   obtain⟨rfl,rfl⟩:=d.nil rfl;have r:vs=[]:=List.length_eq_zero_iff.1 (by simpa using D);subst r;refine⟨_,W,none,[],fun ty=>?_,rfl,⟨fun g q=>(by cases q),fun _=>⟨rfl,rfl⟩,by simp⟩,fun g q=>(by cases q),Frm.refl _ _⟩;have:=run_append_nothing (P:=Tryz.prog) W Y.s Y.s ty Y.t c Y.us m none 0 0 (nR _) v l;exact this
  | some g=>
   have f:=d.arr g rfl;refine⟨_,_,some g,b.drop vs.length,fun ty=>run_append_room_src (P:=Tryz.prog) W Y.s Y.s ty Y.t c Y.us m g 0 es.length (es.length+b.length) v _ _ l (by omega)
    (fun k n=>by
     rw[Y.len]at n;have:(es.length+vs.length)*Y.n<=(es.length+b.length)*Y.n:=Nat.mul_le_mul_right _ (by omega);rw[Nat.add_mul,Nat.add_mul]at this;rw[f.cell,i,Array.getElem?_eq_getElem (by rw[Y.size,lP,Nat.add_mul];omega)];rfl) (fun k n=>f.frozen _),?_,⟨fun g' q=>?_,fun q=>(by cases q),?_⟩,fun g' q=>.inl q,?_⟩
   ·simp[adr];omega
   ·cases q
    have:=IsC.a8 (vs.flatMap Y.cell) (cs:=(es++b).flatMap Y.cell) (es.length*Y.n) f (by
     rw[Y.len,Y.len,lP,<-Nat.add_mul];exact Nat.mul_le_mul_right _ (by omega))
    rw[Y.spl]at this;have s:Go.Proofs.YtmpagpeenjddgaaGreat.spl (es++b) es.length vs=es++vs++b.drop vs.length:=by
     unfold Go.Proofs.YtmpagpeenjddgaaGreat.spl;rw[List.take_left,<-List.drop_drop,List.drop_left]
    rw[s]at this;rw[i,Nat.zero_add];exact this
   ·simp;omega
   ·exact Frm.a8 (S:=fun k=>some g=some k) _ rfl _ _
 ·have E:(Builtin.firstCells c.size es.length (.slice (adr a) es.length (es.length+b.length))).run Tryz.prog W.drew=.ok (es.flatMap Y.cell).toArray W.drew:=by
   cases a with
   | none=>
    obtain⟨rfl,rfl⟩:=d.nil rfl;exact run_firstCells_none (P:=Tryz.prog) W.drew c.size 0 0 0
   | some g=>
    have f:=d.arr g rfl;exact run_firstCells_some (P:=Tryz.prog) W.drew c.size es.length ⟨g,0,none⟩ es.length _ (es.flatMap Y.cell) (by rw[Y.len,i]) (by
     have:=Ely.Sl.cells (Y:=Y) (w:=W.drew) (g:=g) (o:=0) (xs:=es++b) (es:=es) f.drew (by rw[lP];omega) (by simp)
     rw[Nat.zero_mul]at this;exact this)
  have z:=fun ty=>run_append_grow_src (P:=Tryz.prog) W Y.s Y.s ty Y.t c _ Y.us m C (adr a) es.length (es.length+b.length) (es.flatMap Y.cell) E v vs.length (vs.flatMap Y.cell) l (by omega) (by omega) (by rw[p];exact Y.e4 (by omega) (by omega));have I:=grownCap_ge W (es.length+vs.length) (es.length+b.length) Y.t;have H:=grownCap_le_maxLen W (es.length+vs.length) (es.length+b.length) Y.t (by simp[maxLen];omega);generalize grownCap W (es.length+vs.length) (es.length+b.length) Y.t=h at *;refine⟨_,_,some W.heap.size,List.replicate (h -(es.length+vs.length)) Y.z,z,?_,⟨fun g q=>?_,fun q=>(by cases q),?_⟩,fun g q=>(by cases q;exact .inr (nR _)),?_⟩
  ·simp[adr];omega
  ·cases q
   have:=IsC.new W.drew ((es.flatMap Y.cell++vs.flatMap Y.cell).toArray++Builtin.zeroCells Y.zv.cells (h -(es.length+vs.length))) Y.t
   have e:Y.row (es++vs++List.replicate (h -(es.length+vs.length)) Y.z)=(es.flatMap Y.cell++vs.flatMap Y.cell).toArray++Builtin.zeroCells Y.zv.cells (h -(es.length+vs.length)):=by
    rw[Y.c9];simp[Ely.row]
   rw[e];exact this
  ·simp;omega
  ·exact(Frm.drew _ W).trans (Frm.alloc _ _ _)
end Go.Proofs.YtmpagpeenjddgaaGreat
namespace Go.Proofs.YtmpagpeenjddgaaGreat
open Go.RowKit Fo
variable {α : Type} {Y : Ely α}
def Ely.Own(Y:Ely α)(base:Nat)(w:World)(u:Value)(l:List α):Prop:=∃a junk,u=.slice (adr a) l.length (l.length+junk.length)/\Y.Rw w a l junk/\∀g,a=some g->base<=g
theorem Ely.Own.sl{base:Nat}{w:World}{u:Value}{l:List α}(h:Y.Own base w u l):Y.Sl w u l:=by
 obtain⟨a,b,rfl,c,_⟩:=h;exact c.sl
theorem Ely.Own.ae{S:Nat->Prop}{base:Nat}{w w':World}{u:Value}{l:List α}(h:Y.Own base w u l)(k:Frm S w w')(f:∀g,base<=g->¬S g):Y.Own base w' u l:=by
 obtain⟨a,b,rfl,d,c⟩:=h;exact⟨a,b,rfl,d.ae k fun g e=>f g (c g e),c⟩
theorem Ely.Own.below{base:Nat}{w w':World}{u:Value}{l:List α}(h:Y.Own base w u l)(k:Bl w w'):Y.Own base w' u l:=h.ae (Frm.aa (S:=fun _=>False) k) fun _ _=>id
theorem Ely.Own.lit(base:Nat)(w:World)(a:base<=w.heap.size)(g:Nat)(b:g=w.heap.size):Y.Own base (w.alloc (.cells #[] Y.t)) (sL g 0 0 0) []:=by
 subst b;exact⟨some w.heap.size,[],rfl,⟨fun g e=>(by cases e;exact IsC.new _ _ _),fun e=>(by cases e),by simp⟩,fun g e=>(by cases e;exact a)⟩
theorem Ely.Own.nil(base:Nat)(w:World):Y.Own base w (.slice none 0 0) []:=
 ⟨none,[],rfl,⟨fun g e=>(by cases e),fun _=>⟨rfl,rfl⟩,by simp⟩,fun g e=>(by cases e)⟩
theorem Ely.Own.base{b b':Nat}{w:World}{u:Value}{l:List α}(h:Y.Own b w u l)(i:b'<=b):Y.Own b' w u l:=by
 obtain⟨a,c,rfl,d,f⟩:=h;exact⟨a,c,rfl,d,fun g e=>lT i (f g e)⟩
theorem Ely.Sl.len{w:World}{u:Value}{l:List α}(h:Y.Sl w u l):∃a c,u=.slice a l.length c:=by
 rcases h with⟨rfl,rfl⟩ | ⟨g,o,b,xs,rfl,_⟩
 ·exact⟨none,0,rfl⟩
 ·exact⟨_,_,rfl⟩
theorem Ely.Sl.at{w:World}{u:Value}{l:List α}(h:Y.Sl w u l)(p:0<l.length):∃g o c,u=sL g o l.length c/\g<w.heap.size/\∀i j,i<l.length->j<Y.n->w.cell? (aD g (o+i*Y.n+j))=(Y.cell (l.getD i Y.z))[j]?:=by
 rcases h with⟨rfl,rfl⟩ | ⟨g,o,d,xs,rfl,b,f,k⟩
 ·simp at p
 ·refine⟨g,_,_,rfl,b.lt,fun i j m n=>?_⟩
  rw[Nat.add_assoc];have:=Ely.Sl.cells b f k (i*Y.n+j);have a:=Y.at l m n;unfold Ely.row at a;rw[List.getElem?_toArray]at a;have q:(⟨g,o*Y.n,none⟩:Addr).add (i*Y.n+j)=⟨g,o*Y.n+(i*Y.n+j),none⟩:=by unfold Addr.add;split<;>simp_all
  rw[a,q]at this;cases e:(Y.cell (l.getD i Y.z))[j]? with
  | none=>rw[List.getElem?_eq_none_iff,Y.hn]at e;omega
  | some v=>exact this v e
theorem Ely.Sl.new(w:World)(e:α){g:Nat}(a:g=w.heap.size):Y.Sl (w.alloc (.cells (Y.cell e).toArray Y.t)) (sL g 0 1 1) [e]:=by
 subst a;refine .inr ⟨w.heap.size,0,1,[e],by simp,?_,by simp,by simp⟩;have:=IsC.new w (Y.cell e).toArray Y.t;simpa [Ely.row] using this
theorem Ely.ej(Y:Ely α){ops:Array Oper}{rest:List Oper}{o:Oper}{a:Act}{Q:Exit->Act->World->Prop}(E:o.guard=none)(s x:Operand)
  (y:o.op=.call {callee:=.builtin .append,args:=#[s,x],argTypes:=#[Y.s,Y.s]})
  {base:Nat} {w:World} {u vx:Value} {l vs:List α} (r:Y.Own base w u l) (A:a.eval s=u) (hx:a.eval x=vx) (j:Y.Sl w vx vs) (v:l.length+vs.length<=1000000) (t:base<=w.heap.size)
  (h:∀u' w',Y.Own base w' u' (l++vs)->Below base w w'->Frm (fun k=>base<=k/\∃cs,IsC w k cs Y.t) w w'->wpList Tryz.prog ops Q rest (a.put o.dst u') w'):
  wpList Tryz.prog ops Q (o :: rest) a w:=by
 obtain⟨p,c,rfl,f,d⟩:=r;obtain⟨u',m,n,b,z,rfl,B,C,i⟩:=Y.append p l c vs vx w f j v;have D:Frm (fun k=>base<=k/\∃cs,IsC w k cs Y.t) w m:=i.wide fun k _ e=>⟨d k e,_,f.arr k e⟩;refine cL E _ _ _ _ y _ _ A hx _ _ (z _) (h _ _ ⟨n,b,by simp,B,fun g e=>?_⟩ (i.below t fun k e=>d k e) D);rcases C g e with q | q
 ·exact d g q
 ·omega
theorem Ely.av(Y:Ely α){ops:Array Oper}{rest:List Oper}{o:Oper}{a:Act}{Q:Exit->Act->World->Prop}(v:o.guard=none)(s x:Operand)
  (n:o.op=.call {callee:=.builtin .append,args:=#[s,x],argTypes:=#[Y.s,Y.s]})
  {base:Nat} {w:World} {u:Value} {l:List α} (j:Y.Own base w u l) (p:a.eval s=u) (e:α) {cs:Array Value} (hc:cs=(Y.cell e).toArray) (hx:a.eval x=sL w.heap.size 0 1 1) (y:l.length<1000000) (g:base<=w.heap.size)
  (h:∀u' w',Y.Own base w' u' (l++[e])->Below base w w'->Frm (fun k=>base<=k/\∃cs,IsC w k cs Y.t) w w'->wpList Tryz.prog ops Q rest (a.put o.dst u') w'):
  wpList Tryz.prog ops Q (o :: rest) a (w.alloc (.cells cs Y.t)):=by
 subst hc;have d:=(bQ w.heap.size w).alloc (nR _) (.cells (Y.cell e).toArray Y.t);refine Y.ej v s x n (base:=base) (vs:=[e]) (j.below d) p hx (Ely.Sl.new w e rfl) (by simp;omega) (lT g d.size) fun u' w' r t c=>h u' w' r ((d.mono g).trans t) ?_;have b:Frm (fun k=>base<=k/\∃cs,IsC w k cs Y.t) w (w.alloc (.cells (Y.cell e).toArray Y.t)):=Frm.alloc _ _ _;refine⟨c.os.trans b.os,c.tape.trans b.tape,c.output.trans b.output,lT b.size c.size,fun k f i=>?_⟩;refine(c.block k (lL f b.size) fun q=>i ⟨q.1,?_⟩).trans (b.block k f i);obtain⟨cs,m⟩:=q.2;exact⟨cs,by unfold IsC at *;rw[<-mL w _ f];exact m⟩
def yE:Ely E3 where
 cell:=aK
 n:=3
 z:=e0
 zv:=.agg #[.string .empty,.string .empty,iV 0]
 t:=130
 s:=94
 by':=40
 hn:=fun _=>rfl
 hp:=by omega
 one:=fun a v hv=>eM [a] v (by simpa using hv)
 hz:=by kernel_rfl
 us:=Tryz.underlying94
 hb:=by omega
 info:=qA
theorem eG{w:World}{u:Value}{l:List E3}(h:yE.Sl w u l)(j:0<l.length):∃g o c,u=sL g o l.length c/\g<w.heap.size/\∀(w':World) (i:Nat),(w'.heap[g]?=w.heap[g]?)->i<l.length->w'.cell? (aD g (o+i*3))=some (.string (l.getD i e0).1)/\w'.cell? (aD g (o+i*3+1))=some (.string (l.getD i e0).2.1)/\w'.cell? (aD g (o+i*3+2))=some (iV (l.getD i e0).2.2):=by
 obtain⟨g,o,c,rfl,f,a⟩:=h.at j;refine⟨g,o,c,rfl,f,fun w' i e b=>?_⟩;have d:∀k,w'.cell? (aD g k)=w.cell? (aD g k):=fun k=>by simp[World.cell?,e]
 exact⟨(d _).trans (a i 0 b (by decide)),(d _).trans (a i 1 b (by decide)),(d _).trans (a i 2 b (by decide))⟩
theorem cO{α:Type}(l:List α)(j:Nat)(z:α)(h:j<l.length):l.take (j+1)=l.take j++[l.getD j z]:=by
 rw[List.take_add_one,gD,gE h];rfl
end Go.Proofs.YtmpagpeenjddgaaGreat
namespace Go.Proofs.YtmpagpeenjddgaaGreat
open Go.RowKit Fo
variable{j l:List Int}{g i:Nat}{w:World}
theorem eY(v:Value)(es:List E3)(i:Nat)(e:E3)(w:World)(E:yE.Sl w v es)(D:i<es.length)(M:es.length<=100):
  Calls Tryz.prog 76 #[v,iV i,.agg #[.string e.1,.string e.2.1,iV e.2.2]] w fun r w'=>∃u,r=.returned u/\yE.Own w.heap.size w' u (es.set i e)/\Bl w w':=by
 obtain⟨g,o,c,rfl,C,m⟩:=eG E (by omega);obtain⟨B,A⟩:=eZ (w.heap.size);obtain⟨w0,t⟩:=eZ (w.alloc (.cells #[.string e.1,.string e.2.1,iV e.2.2] 130));have n:Bl w w0:=by rw[<-t];exact(bQ w.heap.size w).alloc (nR _) _
 have J:w0.heap.size=w.heap.size+1:=by rw[<-t];simp
 have b:=iNw t A;go_enter Tryz.func76,Tryz.ntmps76;go_wp2;go_loopw [7,8] (fun u k wr=>∃j:Nat,j<=es.length/\k=iV j/\yE.Own w0.heap.size wr u ((es.set i e).take j)/\Bl w0 wr) (fun _ k _=>es.length -(intOf k).toNat)
 case atStart=>exact⟨0,by omega,rfl,Ely.Own.lit _ _ (nR _) _ (by omega),(bQ _ _).alloc (nR _) _⟩
 case round=>
  obtain⟨j,L,rfl,l,a⟩:=hrel;have x:((es.set i e).take j).length<1000000:=by simp;omega
  have z:=a.size;by_cases y:j<es.length
  ·obtain⟨N,O,P⟩:=m wr j ((a.block g (lL C n.size)).trans (n.block g C)) y
   have K:(j:Int) <(es.length:Int):=by omega
   have h:Hid ((es.set i e).take (j+1)=(es.set i e).take j++[if j=i then e else es.getD j e0]):=by
    show _=_
    rw[cO _ _ e0 (by simpa using y),bF _ _ _ _ _ D]
   have Q:wr.cell? (aD B 0)=some (.string e.1):=(a.cell (p:=aD B _) b.lt).trans (b.c rfl);have R:wr.cell? (aD B 1)=some (.string e.2.1):=(a.cell (p:=aD B _) b.lt).trans (b.c rfl);have S:wr.cell? (aD B 2)=some (iV e.2.2):=(a.cell (p:=aD B _) b.lt).trans (b.c rfl);generalize es.getD j e0=f at *;generalize (es.set i e).take j=G at *;by_cases q:j=i
   ·have H:((j:Int) ==(i:Int))=true:=by simp[q]
    rw[if_pos q]at h;clear q m;go_wp2_with (first | (at_builtin;refine yE.av rfl _ _ rfl l rfl e rfl rfl x z ?_;intro I w1 d s F) | go_in);rw[<-h.out]at d;go_roundw
    case rel=>exact⟨j+1,by omega,by go_num,d,a.trans s⟩
    case measure=>simp[intOf];omega
   ·have H:((j:Int) ==(i:Int))=false:=by rw[beq_eq_false_iff_ne];omega
    rw[if_neg q]at h;clear q m;go_wp2_with (first | (at_builtin;refine yE.av rfl _ _ rfl l rfl f rfl rfl x z ?_;intro I w1 d s F) | go_in);rw[<-h.out]at d;go_roundw
    case rel=>exact⟨j+1,by omega,by go_num,d,a.trans s⟩
    case measure=>simp[intOf];omega
  ·obtain rfl:j=es.length:=by omega
   rw[List.take_of_length_le (by simp)]at l;go_wp2;go_ret;rw[<-A];exact⟨_,rfl,l.base (by omega),n.trans (a.mono (by omega))⟩
def qS(es:List E3)(i:Nat)(e:E3)(j:Nat):List E3:=if j<=i then es.take j else insE (es.take j) i e
theorem oH(v:Value)(es:List E3)(i:Nat)(e:E3)(w:World)(F:yE.Sl w v es)(hi:i<=es.length)(hl:es.length<=100):
  Calls Tryz.prog 91 #[v,iV i,.agg #[.string e.1,.string e.2.1,iV e.2.2]] w fun r w'=>∃u,r=.returned u/\yE.Own w.heap.size w' u (insE es i e)/\Bl w w':=by
 obtain⟨V,W,rfl⟩:=F.len;obtain⟨B,D⟩:=eZ (w.heap.size);obtain⟨w0,G⟩:=eZ (w.alloc (.cells #[.string e.1,.string e.2.1,iV e.2.2] 130));have t:Bl w w0:=by rw[<-G];exact(bQ w.heap.size w).alloc (nR _) _
 have WT:w0.heap.size=w.heap.size+1:=by rw[<-G];simp
 have m:=iNw G D;have z:0<es.length->∃g o c,(.slice V es.length W:Value)=sL g o es.length c/\g<w.heap.size/\∀(w':World) (i:Nat),(w'.heap[g]?=w.heap[g]?)->i<es.length->w'.cell? (aD g (o+i*3))=some (.string (es.getD i e0).1)/\w'.cell? (aD g (o+i*3+1))=some (.string (es.getD i e0).2.1)/\w'.cell? (aD g (o+i*3+2))=some (iV (es.getD i e0).2.2):=fun h=>eG F h;clear F;go_enter Tryz.func91,Tryz.ntmps91;go_wp2;go_loopw [7,8] (fun u k wr=>∃j:Nat,j<=es.length/\k=iV j/\yE.Own w0.heap.size wr u (qS es i e j)/\Bl w0 wr) (fun _ k _=>es.length -(intOf k).toNat)
 case atStart=>exact⟨0,by omega,rfl,Ely.Own.lit _ _ (nR _) _ (by omega),(bQ _ _).alloc (nR _) _⟩
 case round=>
  obtain⟨j,hj,rfl,d,a⟩:=hrel;have C:=a.size;have Q:(qS es i e j).length<999990:=by
   unfold qS;split
   ·simp;omega
   ·rw[iT];simp;omega
  have y0:wr.cell? (aD B 0)=some (.string e.1):=(a.cell (p:=aD B _) m.lt).trans (m.c rfl);have y1:wr.cell? (aD B 1)=some (.string e.2.1):=(a.cell (p:=aD B _) m.lt).trans (m.c rfl);have y2:wr.cell? (aD B 2)=some (iV e.2.2):=(a.cell (p:=aD B _) m.lt).trans (m.c rfl);by_cases K:j<es.length
  ·obtain⟨g,o,c,T,E,A⟩:=z (by omega)
   cases T
   clear z;obtain⟨Y,Z,x2⟩:=A wr j ((a.block g (lL E t.size)).trans (t.block g E)) K;have eX:(j:Int) <(es.length:Int):=by omega
   have y:Hid (qS es i e (j+1)=(if j=i then qS es i e j++[e]else qS es i e j)++[es.getD j e0]):=by
    show _=_
    have ht:=cO es j e0 K;unfold qS;by_cases q:j=i
    ·subst q
     rw[if_pos rfl,if_neg (by omega),if_pos (nR _),ht];unfold insE;have J:(es.take j).length=j:=by simp;omega
     rw[List.take_left' J,List.drop_left' J];simp
    ·rw[if_neg q]
     by_cases q2:j<i
     ·rw[if_pos (by omega),if_pos (by omega),ht]
     ·rw[if_neg (by omega),if_neg (by omega),ht]
      unfold insE;rw[List.take_append_of_le_length (by simp;omega),List.drop_append_of_le_length (by simp;omega)];simp
   generalize es.getD j e0=f at *;generalize qS es i e j=l at *;by_cases q:j=i
   ·have H:((j:Int) ==(i:Int))=true:=by simp[q]
    rw[if_pos q]at y;have s:l.length<1000000:=by omega
    clear q A;have X:(l++[e]).length<1000000:=by simp;omega
    have L:∀w1:World,Below w0.heap.size wr w1->w0.heap.size<=w1.heap.size/\w1.cell? (aD g (o+j*3))=some (.string f.1)/\w1.cell? (aD g (o+j*3+1))=some (.string f.2.1)/\w1.cell? (aD g (o+j*3+2))=some (iV f.2.2):=fun w1 b=>by
     have I:w1.heap[g]?=wr.heap[g]?:=b.block g (lL E t.size);exact⟨(a.trans b).size,by rw[<-Y];simp[World.cell?,I],by rw[<-Z];simp[World.cell?,I],by rw[<-x2];simp[World.cell?,I]⟩
    go_wp2_with (first | (at_builtin;refine yE.av rfl _ _ rfl d rfl e rfl rfl s C ?_;intro O w1 n b M;obtain⟨S,z0,z1,z2⟩:=L w1 b;clear d L) | (at_builtin;refine yE.av rfl _ _ rfl n rfl f rfl rfl X S ?_;intro u2 w2 N U m3) | go_in)
    have R:=a.trans b;rw[<-y.out]at N;go_roundw
    case rel=>exact⟨j+1,by omega,by go_num,N,R.trans U⟩
    case measure=>simp[intOf];omega
   ·have H:((j:Int) ==(i:Int))=false:=by rw[beq_eq_false_iff_ne];omega
    rw[if_neg q]at y;have s:l.length<1000000:=by omega
    clear q A;go_wp2_with (first | (at_builtin;refine yE.av rfl _ _ rfl d rfl f rfl rfl s C ?_;intro O w1 n b M) | go_in);rw[<-y.out]at n;go_roundw
    case rel=>exact⟨j+1,by omega,by go_num,n,a.trans b⟩
    case measure=>simp[intOf];omega
  ·obtain rfl:j=es.length:=by omega
   by_cases q:i=es.length
   ·have H:(es.length:Int)<=(i:Int):=by omega
    have P:Hid (insE es i e=es++[e]):=by subst q;simp[Hid,insE]
    have x:qS es i e es.length=es:=by unfold qS;rw[if_pos (by omega)];simp
    rw[x]at d Q;have s:es.length<1000000:=by omega
    clear q z x;go_wp2_with (first | (at_builtin;refine yE.av rfl _ _ rfl d rfl e rfl rfl s C ?_;intro O w1 n b M) | go_in);go_ret;rw[<-D];exact⟨_,rfl,by rw[P.out];exact n.base (by omega),t.trans ((a.trans b).mono (by omega))⟩
   ·have H:¬(es.length:Int)<=(i:Int):=by omega
    have x:qS es i e es.length=insE es i e:=by unfold qS;rw[if_neg (by omega)];simp
    rw[x]at d;clear q z x;go_wp2;go_ret;rw[<-D];exact⟨_,rfl,d.base (by omega),t.trans (a.mono (by omega))⟩
def vC(es:List E3)(i:Nat)(j:Nat):List E3:=if j<=i then es.take j else delE (es.take j) i
theorem uV(v:Value)(es:List E3)(i:Nat)(w:World)(x:yE.Sl w v es)(C:i<es.length)(E:es.length<=100):
  Calls Tryz.prog 78 #[v,iV i] w fun r w'=>∃u,r=.returned u/\yE.Own w.heap.size w' u (delE es i)/\Bl w w':=by
 obtain⟨g,o,c,rfl,t,e⟩:=eG x (by omega);go_enter Tryz.func78,Tryz.ntmps78;go_wp2;go_loopw [5,6] (fun u k wr=>∃j:Nat,j<=es.length/\k=iV j/\yE.Own w.heap.size wr u (vC es i j)/\Bl w wr) (fun _ k _=>es.length -(intOf k).toNat)
 case atStart=>exact⟨0,by omega,rfl,Ely.Own.lit _ _ (nR _) _ (by omega),(bQ _ _).alloc (nR _) _⟩
 case round=>
  obtain⟨j,D,rfl,d,a⟩:=hrel;have p:=a.size;by_cases h:j<es.length
  ·obtain⟨I,J,K⟩:=e wr j (a.block g t) h
   have n:(vC es i j).length<1000000:=by
    unfold vC;split
    ·simp;omega
    ·rw[bU _ _ (by simp;omega)];simp;omega
   have B:(j:Int) <(es.length:Int):=by omega
   have b:Hid (vC es i (j+1)=if j=i then vC es i j else vC es i j++[es.getD j e0]):=by
    show _=_
    have ht:=cO es j e0 h;unfold vC;by_cases q:j=i
    ·subst q
     rw[if_pos rfl,if_neg (by omega),if_pos (nR _),ht];unfold delE;have m:(es.take j).length=j:=by simp;omega
     rw[List.take_left' m,List.drop_of_length_le (by simp;omega)];simp
    ·rw[if_neg q]
     by_cases G:j<i
     ·rw[if_pos (by omega),if_pos (by omega),ht]
     ·rw[if_neg (by omega),if_neg (by omega),ht]
      unfold delE;rw[List.take_append_of_le_length (by simp;omega),List.drop_append_of_le_length (by simp;omega)];simp
   generalize es.getD j e0=f at *;generalize vC es i j=z at *;by_cases q:j=i
   ·have A:((j:Int) ==(i:Int))=true:=by simp[q]
    rw[if_pos q]at b;clear q e;go_wp2;go_roundw
    case rel=>exact⟨j+1,by omega,by go_num,by rw[b.out];exact d,a⟩
    case measure=>simp[intOf];omega
   ·have A:((j:Int) ==(i:Int))=false:=by rw[beq_eq_false_iff_ne];omega
    rw[if_neg q]at b;clear q e;go_wp2_with (first | (at_builtin;refine yE.av rfl _ _ rfl d rfl f rfl rfl n p ?_;intro H w1 l y F) | go_in);rw[<-b.out]at l;go_roundw
    case rel=>exact⟨j+1,by omega,by go_num,l,a.trans y⟩
    case measure=>simp[intOf];omega
  ·obtain rfl:j=es.length:=by omega
   have s:vC es i es.length=delE es i:=by unfold vC;rw[if_neg (by omega)];simp
   rw[s]at d;go_wp2;go_ret;exact⟨_,rfl,d,a⟩
theorem mZ(v D:Value)(es a:List E3)(w:World)(y:yE.Sl w v es)(C:yE.Sl w D a)(P:es.length<=100)(O:a.length<=100):
  Calls Tryz.prog 90 #[v,D] w fun r w'=>∃u,r=.returned u/\yE.Own w.heap.size w' u (es++a)/\Bl w w':=by
 have s:0<es.length->_:=fun h=>eG y h;have n:0<a.length->_:=fun h=>eG C h;obtain⟨Q,R,rfl⟩:=y.len;obtain⟨J,K,rfl⟩:=C.len;clear y C;go_enter Tryz.func90,Tryz.ntmps90;go_wp2;go_loopw [5,6] (fun u k wr=>∃j:Nat,j<=es.length/\k=iV j/\yE.Own w.heap.size wr u (es.take j)/\Bl w wr) (fun _ k _=>es.length -(intOf k).toNat)
 case atStart=>exact⟨0,by omega,rfl,Ely.Own.lit _ _ (nR _) _ (by omega),(bQ _ _).alloc (nR _) _⟩
 case round=>
  obtain⟨j,G,rfl,d,b⟩:=hrel;have l:=b.size;by_cases i:j<es.length
  ·obtain⟨g,o,c,t,x,e⟩:=s (by omega)
   cases t
   obtain⟨L,M,N⟩:=e wr j (b.block g x) i;have q:(es.take j).length<1000000:=by simp;omega
   have F:(j:Int) <(es.length:Int):=by omega
   have p:Hid (es.take (j+1)=es.take j++[es.getD j e0]):=cO es j e0 i;generalize es.getD j e0=f at *;generalize es.take j=B at *;clear s n e;go_wp2_with (first | (at_builtin;refine yE.av rfl _ _ rfl d rfl f rfl rfl q l ?_;intro I w1 m z H) | go_in);rw[<-p.out]at m;go_roundw
   case rel=>exact⟨j+1,by omega,by go_num,m,b.trans z⟩
   case measure=>simp[intOf];omega
  ·obtain rfl:j=es.length:=by omega
   rw[List.take_of_length_le (nR _)]at d;obtain⟨w0,A⟩:∃w0,w0=wr:=⟨_,rfl⟩;rw[<-A]at d b l;have E:Hid (w0=wr):=A;clear A s;go_wp2;rw[<-E.out];go_loopw [5,7] (fun u k wr=>∃j:Nat,j<=a.length/\k=iV j/\yE.Own w.heap.size wr u (es++a.take j)/\Bl w wr) (fun _ k _=>a.length -(intOf k).toNat)
   case atStart=>exact⟨0,by omega,rfl,by simpa using d,b⟩
   case round=>
    clear d b l;obtain⟨j,G,rfl,d,b⟩:=hrel;have l:=b.size;by_cases i:j<a.length
    ·obtain⟨g,o,c,t,x,e⟩:=n (by omega)
     cases t
     obtain⟨L,M,N⟩:=e wr j (b.block g x) i;have q:(es++a.take j).length<1000000:=by simp;omega
     have F:(j:Int) <(a.length:Int):=by omega
     have p:Hid (es++a.take (j+1)=es++a.take j++[a.getD j e0]):=by show _=_;rw[cO a j e0 i,List.append_assoc]
     generalize a.getD j e0=f at *;generalize es++a.take j=B at *;clear n e;go_wp2_with (first | (at_builtin;refine yE.av rfl _ _ rfl d rfl f rfl rfl q l ?_;intro I w1 m z H) | go_in);rw[<-p.out]at m;go_roundw
     case rel=>exact⟨j+1,by omega,by go_num,m,b.trans z⟩
     case measure=>simp[intOf];omega
    ·obtain rfl:j=a.length:=by omega
     rw[List.take_of_length_le (nR _)]at d;clear n;go_wp2;go_ret;exact⟨_,rfl,d,b⟩
theorem pJ{t:TypeId}{z:Value}{n b:Nat}(h:(Tryz.prog.info? t).map (fun i=>(i.zero,i.size,i.bytes))=some (some z,n,b)):∃i,Tryz.prog.info? t=some i/\i.size=n/\i.bytes=b/\i.zero=some z:=by
 cases e:Tryz.prog.info? t with
 | none=>rw[e]at h;cases h
 | some i=>
  rw[e]at h;simp only[Option.map_some,sJ,Prod.mk.injEq]at h;exact⟨i,rfl,h.2.1,h.2.2,h.1⟩
def y64:Ely Int where
 cell:=fun z=>[iV z]
 n:=1
 z:=0
 zv:=iV 0
 t:=2
 s:=29
 by':=8
 hn:=fun _=>rfl
 hp:=by omega
 one:=fun a v hv=>by simp only[List.mem_singleton]at hv;subst hv;rfl
 hz:=by kernel_rfl
 us:=Tryz.underlying29
 hb:=by omega
 info:=pJ pI
def yT:Ely (Int×Int) where
 cell:=aW
 n:=2
 z:=(0,0)
 zv:=.agg #[iV 0,iV 0]
 t:=92
 s:=56
 by':=16
 hn:=fun _=>rfl
 hp:=by omega
 one:=fun a v hv=>lW [a] v (by simpa using hv)
 hz:=by kernel_rfl
 us:=Tryz.underlying56
 hb:=by omega
 info:=aDW
abbrev NV:=Int×Option Addr×Nat×Nat
def aDL(d:NV):List Value:=[iV d.1,.slice d.2.1 d.2.2.1 d.2.2.2]
def yN:Ely NV where
 cell:=aDL
 n:=2
 z:=(0,none,0,0)
 zv:=.agg #[iV 0,.slice none 0 0]
 t:=96
 s:=55
 by':=32
 hn:=fun _=>rfl
 hp:=by omega
 one:=fun a v hv=>by simp only[aDL,List.mem_cons,List.not_mem_nil,or_false]at hv;rcases hv with rfl | rfl<;>rfl
 hz:=by kernel_rfl
 us:=Tryz.underlying55
 hb:=by omega
 info:=pJ (by kernel_rfl)
theorem aEQ(l:List Int):y64.row l=dA l:=by
 unfold Ely.row dA;congr 1;induction l with
 | nil=>rfl
 | cons a l ih=>simp only[List.flatMap_cons,List.map_cons,ih];rfl
theorem eD(h:IsC w g (y64.row (l++j)) 2)(a:i<l.length):w.cell? (aD g i)=some (iV (l.getD i 0)):=by
 rw[h.cell];have:=y64.at (l++j) (i:=i) (j:=0) (by simp;omega) (by decide);have e:i*y64.n+0=i:=by show i*1+0=i;omega
 rw[e]at this;rw[this,dC,if_pos a];rfl
theorem iH(h:IsC w g (y64.row (l++j)) 2)(a:i<l.length)(v:Int):IsC (w.setCell (aD g i) (iV v)) g (y64.row (l.set i v++j)) 2:=by
 have:=h.set i (iV v)
 rw[aEQ]at this |-;have e:(dA (l++j)).setIfInBounds i (iV v)=dA (l.set i v++j):=by
  unfold dA;rw[List.setIfInBounds_toArray,<-List.map_set,List.set_append_left _ _ a]
 rw[e]at this;exact this
theorem Ely.Sl.c3{u:Value}(h:y64.Sl w u l)(j:∀i,0<=l.getD i 0/\l.getD i 0<=2000000):Nts w u l:=by
 obtain⟨a,c,rfl⟩:=h.len;refine⟨fun i=>by have:=j i;omega,_,_,rfl,fun f=>?_⟩;obtain⟨g,o,k,e,m,b⟩:=h.at f;cases e;refine⟨g,o,rfl,fun i d=>?_⟩;have:=b i 0 d (by decide);have e:o+i*y64.n+0=o+i:=by show o+i*1+0=o+i;omega
 rw[e]at this;exact this
structure Is2(u u':Value)(w w':World):Prop where
 u:u=u'
 w:w=w'
theorem vP(v:Value)(es:List E3)(key:ByteArray)(w:World)(m:yE.Sl w v es)(E:es.length<=100):
  Calls Tryz.prog 75 #[v,.string key] w fun r w'=>r=.returned (iV (nV es key es.length))/\w'=w:=by
 have l:0<es.length->_:=fun h=>eG m h;obtain⟨F,G,rfl⟩:=m.len;clear m;go_enter Tryz.func75,Tryz.ntmps75;go_wp2;go_loopw [5,6] (fun u k wr=>∃j:Nat,j<=es.length/\k=iV j/\Is2 u (iV (nV es key j)) wr w) (fun _ k _=>es.length -(intOf k).toNat)
 case atStart=>exact⟨0,by omega,rfl,⟨rfl,rfl⟩⟩
 case round=>
  obtain⟨j,D,rfl,t⟩:=hrel;obtain⟨rfl,rfl⟩:=t;by_cases y:j<es.length
  ·obtain⟨g,o,c,z,C,p⟩:=l (by omega)
   cases z
   obtain⟨H,I,J⟩:=p wr j rfl y;have B:(j:Int) <(es.length:Int):=by omega
   have f:Hid (nV es key (j+1)=if kl key (ky es j)=true then nV es key j else j):=rfl;have n:Hid (kl key (ky es j)=Op.bytesLess key.toList (es.getD j e0).1.toList):=rfl;clear l p;generalize (es.getD j e0).1=x at *;by_cases d:Op.bytesLess key.toList x.toList=true
   ·rw[n.out,if_pos d]at f
    have s:Op.bytesLess x.toList key.toList=false:=fN (a:=key) (b:=x) d;have A:(x.toList == key.toList)=false:=by
     rw[beq_eq_false_iff_ne];intro e;rw[e,pF]at d;cases d
    clear d;go_wp2;go_roundw
    case rel=>exact⟨j+1,by omega,by go_num,⟨by rw[f.out],rfl⟩⟩
    case measure=>simp[intOf];omega
   ·rw[n.out,if_neg d]at f
    have i:kl key x=false:=Bool.eq_false_iff.2 d;clear d;rcases lF i with q | q
    ·have s:Op.bytesLess x.toList key.toList=false:=by rw[q];exact pF _
     have A:(x.toList == key.toList)=true:=by rw[q];exact beq_self_eq_true _
     clear q i;go_wp2;go_roundw
     case rel=>exact⟨j+1,by omega,by go_num,⟨by rw[f.out],rfl⟩⟩
     case measure=>simp[intOf];omega
    ·have s:Op.bytesLess x.toList key.toList=true:=q
     clear q i;go_wp2;go_roundw
     case rel=>exact⟨j+1,by omega,by go_num,⟨by rw[f.out],rfl⟩⟩
     case measure=>simp[intOf];omega
  ·obtain rfl:j=es.length:=by omega
   clear l;go_wp2;go_ret;exact⟨rfl,rfl⟩
theorem qE(n:Nat)(hn:n<=512)(w:World):Calls Tryz.prog 39 #[iV n] w fun e w'=>∃u,e=.returned u/\y64.Own w.heap.size w' u (List.replicate n 0)/\Bl w w':=by
 go_enter Tryz.func39,Tryz.ntmps39
 go_wp2
 go_loopw [3,4] (fun u i wr=>∃k:Nat,k<=n/\i=iV k/\y64.Own w.heap.size wr u (List.replicate k 0)/\Bl w wr) (fun _ i _=>n -(intOf i).toNat)
 case atStart=>exact⟨0,Nat.zero_le _,rfl,Ely.Own.lit _ _ (nR _) _ rfl,(bQ _ _).alloc (nR _) _⟩
 case round=>
  obtain⟨k,l,rfl,b,a⟩:=hrel;have f:=a.size;by_cases j:k<n
  ·have m:(k:Int) <(n:Int):=by omega
   have d:Hid (List.replicate (k+1) (0:Int)=List.replicate k 0++[0]):=List.replicate_succ';have h:(List.replicate k (0:Int)).length<1000000:=by simp;omega
   generalize List.replicate k (0:Int)=ys at *;go_wp2_with (first | (at_builtin;refine y64.av rfl _ _ rfl b rfl 0 rfl rfl h f ?_;intro p w1 c g o) | go_in);rw[<-d.out]at c;go_roundw
   case rel=>exact⟨k+1,by omega,by go_num,c,a.trans g⟩
   case measure=>simp[intOf];omega
  ·obtain rfl:k=n:=by omega
   go_wp2
   go_ret
   exact⟨_,rfl,b,a⟩
