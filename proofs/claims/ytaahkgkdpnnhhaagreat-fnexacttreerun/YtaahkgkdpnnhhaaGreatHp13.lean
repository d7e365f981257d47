import Derived.Maps.OwnSet
import Derived.Maps.Views
import Derived.Test.YtaahkgkdpnnhhaaGreatHp7
import Derived.Test.YtaahkgkdpnnhhaaGreatFo26
set_option maxHeartbeats 9999999
set_option maxRecDepth 99999
set_option linter.all false
namespace Go.Proofs.YtaahkgkdpnnhhaaGreat
open Go.RowKit Fo
def rG(v:Value):Option (DataW Unit×List MemPlace):=match v with
 | .pointer none=>some (.lit (.int .i64 (-1)),[])
 | .pointer (some p)=>if p.off=0∧p.spot=none then some (.lit (.int .i64 p.block),[])else none
 | _=>none
theorem yH{v:Value}{d:DataW Unit}{ps:List MemPlace}(h:rG v=some (d,ps)):(v=.pointer none∧d=.lit (.int .i64 (-1)))∨∃q:Nat,v=.pointer (some ⟨q,0,none⟩)∧d=.lit (.int .i64 q):=by
 unfold rG at h;split at h
 ·cases h;exact .inl ⟨rfl,rfl⟩
 ·rename_i p
  split at h
  ·rename_i hp
   cases h
   obtain⟨bl,off,sp⟩:=p;simp only at hp;obtain⟨rfl,rfl⟩:=hp;exact .inr ⟨bl,rfl,rfl⟩
  ·cases h
 ·cases h
def eY(x:Option Nat):Value:=.pointer (x.map fun q=>⟨q,0,none⟩)
def uR(x:Option Nat):DataW Unit:=.lit (.int .i64 (match x with
 | some q=>(q:Int)
 | none=>-1))
def aHY(φ:Nat→Option Nat):Nat:=cM 512 fun b=>if(φ b).isSome then 1 else 0
theorem aIM(φ:Nat→Option Nat):aHY φ≤512:=by
 have:∀n,cM n (fun b=>if(φ b).isSome then 1 else 0)≤n:=fun n=>by
  induction n with
  | zero=>exact nR _
  | succ n ih=>simp only[cM];split<;>omega
 exact this 512
theorem yS(φ:Nat→Option Nat){b:Nat}(hb:b<512)(x:Option Nat):aHY (upd φ b x)+(if(φ b).isSome then 1 else 0)=aHY φ+(if x.isSome then 1 else 0):=by
 have:=lN (n:=512) (g:=fun b=>if(φ b).isSome then 1 else 0) (g':=fun y=>if(upd φ b x y).isSome then 1 else 0) hb (fun y hy=>by simp only[aC _ _ hy])
 simpa [aHY,aD] using this
abbrev kB(b:Nat):Lit:=.int .i64 b
theorem oP{a b:Nat}(h:kB a=kB b):a=b:=by
 simp only[kB,Lit.int.injEq,true_and]at h;omega
def dR(w:World)(m:Nat)(φ:Nat→Option Nat):Prop:=
 ∃D,w.ownsMap Tryz.prog 2 rG m (Maps.size D) D∧Maps.size D=aHY φ∧(∀b,b<512→Maps.has D (kB b)=(φ b).isSome)∧∀b,b<512→D.atKey (kB b) (uR none)=uR (φ b)
theorem gF:Maps.Keyed Tryz.prog 2:=Maps.int_keyed (q:=.i64) Tryz.underlying2
theorem yM(b:Nat)(hb:b<512):keyOf Tryz.prog 2 (.int .i64 b)=some (kB b):=by
 have e1:IntKind.i64.min=-9223372036854775808:=by decide
 have e2:IntKind.i64.max=9223372036854775807:=by decide
 refine Maps.keyOf_int_mk Tryz.underlying2 ?_;unfold Lit.wf;simp only[e1,e2,Bool.and_eq_true,decide_eq_true_eq];omega
theorem dR.lookup{w:World}{m:Nat}{φ:Nat→Option Nat}(h:dR w m φ)(b:Nat)(hb:b<512):(Instr.lookup 68 (.map (some m)) (.int .i64 b) false).run Tryz.prog w=.ok (eY (φ b)) w:=by
 obtain⟨D,h1,h2,h3,h4⟩:=h;have hz:(zeroValue 112).run Tryz.prog w=.ok (.pointer none) w:=by kernel_rfl
 obtain⟨v,ps,hr,hv⟩:=h1.lookup gF Tryz.underlying68 hz (zd:=uR none) (zp:=[]) rfl (yM b hb);rw[h4 b hb]at hv;rw[hr];rcases yH hv with⟨rfl,e⟩ | ⟨q,rfl,e⟩
 ·cases hφ:φ b with
  | none=>rfl
  | some q=>
   rw[hφ]at e;simp only[uR,DataW.lit.injEq,Lit.int.injEq,true_and]at e;omega
 ·cases hφ:φ b with
  | none=>
   rw[hφ]at e;simp only[uR,DataW.lit.injEq,Lit.int.injEq,true_and]at e;omega
  | some q'=>
   rw[hφ]at e;simp only[uR,DataW.lit.injEq,Lit.int.injEq,true_and]at e;have:q'=q:=by omega
   subst this;rfl
theorem dR.of{w w':World}{m:Nat}{φ:Nat→Option Nat}(h:dR w m φ)(he:w'.heap[m]?=w.heap[m]?):dR w' m φ:=by
 obtain⟨D,⟨es,cl,e1,e2⟩,h2,h3,h4⟩:=h;exact⟨D,⟨es,cl,he.trans e1,e2⟩,h2,h3,h4⟩
theorem dR.lt{w:World}{m:Nat}{φ:Nat→Option Nat}(h:dR w m φ):m<w.heap.size:=by
 obtain⟨D,h1,_⟩:=h;exact h1.lt
theorem dR.tight{w:World}{m n:Nat}{D:DataW Unit}(h:w.ownsMap Tryz.prog 2 rG m n D):w.ownsMap Tryz.prog 2 rG m (Maps.size D) D:=by
 obtain⟨es,cl,e1,e2,e3,rfl⟩:=h;exact⟨es,cl,e1,e2,by simp[Maps.size,length_sorted],rfl⟩
theorem dR.put{w:World}{m:Nat}{φ:Nat→Option Nat}(h:dR w m φ)(b q:Nat)(hb:b<512):∃w',(Instr.mapUpdate 68 (.map (some m)) (.int .i64 b) (.pointer (some ⟨q,0,none⟩))).run Tryz.prog w=.ok () w'∧dR w' m (upd φ b (some q))∧Frm (fun k=>k=m) w w':=by
 obtain⟨D,h1,h2,h3,h4⟩:=h;have ht:=h1.tidy gF;have hsz:=aIM φ;obtain⟨w',hr,ho,hg⟩:=h1.update gF Tryz.underlying68 (by rw[h2];simp[maxLen];omega) (yM b hb) (val:=.pointer (some ⟨q,0,none⟩)) (d:=uR (some q)) (ps:=[]) (by simp[rG,uR]);have hkl:WideAt.IsKeyLit (kB b):=gF.key (yM b hb);refine⟨w',hr,⟨D.put (kB b) (uR (some q)),dR.tight ho,?_,fun x hx=>?_,fun x hx=>?_⟩,⟨hg.os,hg.tape,hg.output,hg.size,fun k hk hn=>hg.block k hk (fun e=>hn (Option.some.inj e))⟩⟩
 ·have e1:=Maps.size_put (k:=kB b) ht (uR (some q))
  have e2:=yS φ hb (some q);rw[h3 b hb]at e1;rw[e1,h2];cases hφ:φ b with
  | none=>rw[hφ]at e2;simp at e2 ⊢;omega
  | some y=>rw[hφ]at e2;simp at e2 ⊢;omega
 ·by_cases e:x=b
  ·subst e;rw[Maps.has_put_same ht.isMap hkl,aD];rfl
  ·rw[Maps.has_put_other (fun q=>e (oP q)),aC _ _ e];exact h3 x hx
 ·by_cases e:x=b
  ·subst e;rw[Maps.atKey_put_same ht.isMap hkl,aD]
  ·rw[Maps.atKey_put_other (fun q=>e (oP q)),aC _ _ e];exact h4 x hx
theorem dR.del{w:World}{m:Nat}{φ:Nat→Option Nat}(h:dR w m φ)(b:Nat)(hb:b<512)(ty:TypeId):∃w',(Builtin.delete_ #[68,2] ty #[.map (some m),.int .i64 b]).run Tryz.prog w=.ok (.tuple #[]) w'∧dR w' m (upd φ b none)∧Frm (fun k=>k=m) w w':=by
 obtain⟨D,h1,h2,h3,h4⟩:=h;have ht:=h1.tidy gF;obtain⟨w',hr,ho,hg⟩:=h1.drop gF Tryz.underlying68 (yM b hb) ty;have hg:=hg.grown;refine⟨w',hr,⟨D.del (kB b),dR.tight ho,?_,fun x hx=>?_,fun x hx=>?_⟩,⟨hg.os,hg.tape,hg.output,hg.size,fun k hk hn=>hg.block k hk (fun e=>hn (Option.some.inj e))⟩⟩
 ·have e1:=Maps.size_del (k:=kB b) ht
  have e2:=yS φ hb none;rw[h3 b hb]at e1;cases hφ:φ b with
  | none=>rw[hφ]at e1 e2;simp at e1 e2;omega
  | some y=>rw[hφ]at e1 e2;simp at e1 e2;omega
 ·by_cases e:x=b
  ·subst e;rw[Maps.has_del_same,aD];rfl
  ·rw[Maps.has_del_other (fun q=>e (oP q)),aC _ _ e];exact h3 x hx
 ·by_cases e:x=b
  ·subst e;rw[Maps.atKey_del_same,aD]
  ·rw[Maps.atKey_del_other (fun q=>e (oP q)),aC _ _ e];exact h4 x hx
abbrev JE:=Int×Int×Option Nat
abbrev j0:JE:=(0,0,none)
def bZ(e:JE):List Value:=[.int .i64 e.1,.int .i64 e.2.1,eY e.2.2]
def iR(l:List JE):Array Value:=(l.flatMap bZ).toArray
theorem aLI:(Tryz.prog.info? 187).map (fun i=>(i.zero,i.size,i.bytes))=some (some (.agg #[.int .i64 0,.int .i64 0,.pointer none]),3,24):=by kernel_rfl
theorem aMF:∃i,Tryz.prog.info? 187=some i∧i.size=3∧i.bytes=24∧i.zero=some (.agg #[.int .i64 0,.int .i64 0,.pointer none]):=by
 have h:=aLI;cases e:Tryz.prog.info? 187 with
 | none=>rw[e]at h;cases h
 | some i=>
  rw[e]at h;simp only[Option.map_some,sJ,Prod.mk.injEq]at h;exact⟨i,rfl,h.2.1,h.2.2,h.1⟩
theorem aER(es junk vs:List JE)(h:vs.length≤junk.length):spl (es++junk) es.length vs=es++vs++junk.drop vs.length:=by
 unfold spl;rw[List.take_left,←List.drop_drop,List.drop_left]
theorem aMI{need old:Nat}(h:need≤1000000)(ho:old<need):Builtin.nextslicecap need old*24≤281474976710656:=growslice_fits (bytes:=24) (need:=need) (old:=old) (by omega) (by omega)
theorem cK(es:List JE):(es.flatMap bZ).length=es.length*3:=by
 induction es with
 | nil=>rfl
 | cons e es ih=>simp only[List.flatMap_cons,lP,ih,List.length_cons];simp[bZ];omega
theorem aFE(es:List JE):(iR es).size=es.length*3:=by unfold iR;rw[List.size_toArray,cK]
theorem rQ(es:List JE){i:Nat}(hi:i<es.length):(es.flatMap bZ)[i*3]?=some (.int .i64 (es.getD i j0).1)∧(es.flatMap bZ)[i*3+1]?=some (.int .i64 (es.getD i j0).2.1)∧(es.flatMap bZ)[i*3+2]?=some (eY (es.getD i j0).2.2):=by
 induction es generalizing i with
 | nil=>simp at hi
 | cons e es ih=>
  cases i with
  | zero=>simp[bZ]
  | succ i=>
   have:=ih (i:=i) (by simpa using hi)
   have e1:(e :: es).flatMap bZ=bZ e++es.flatMap bZ:=List.flatMap_cons;have l3:(bZ e).length=3:=rfl;rw[e1];rw[List.getElem?_append_right (by rw[l3];omega),List.getElem?_append_right (by rw[l3];omega),List.getElem?_append_right (by rw[l3];omega),l3];rw[show(i+1)*3-3=i*3 by omega,show(i+1)*3+1-3=i*3+1 by omega,show(i+1)*3+2-3=i*3+2 by omega];simpa using this
theorem aGL(es:List JE){i:Nat}(hi:i<es.length):(iR es)[i*3]?=some (.int .i64 (es.getD i j0).1)∧(iR es)[i*3+1]?=some (.int .i64 (es.getD i j0).2.1)∧(iR es)[i*3+2]?=some (eY (es.getD i j0).2.2):=by
 simpa [iR] using rQ es hi
theorem aDS(es:List JE):∀v∈es.flatMap bZ,v.oneCell'=true:=fun v hv=>by
 obtain⟨e,_,he⟩:=List.mem_flatMap.1 hv;simp only[bZ,List.mem_cons,List.not_mem_nil,or_false]at he;rcases he with rfl | rfl | rfl<;>rfl
theorem vB(xs ys:List JE)(i:Nat):spl (xs.flatMap bZ) (i*3) (ys.flatMap bZ)=(spl xs i ys).flatMap bZ:=by
 have tk:∀(l:List JE) (n:Nat),(l.flatMap bZ).take (n*3)=(l.take n).flatMap bZ:=by
  intro l;induction l with
  | nil=>intro n;simp
  | cons e l ih=>
   intro n;cases n with
   | zero=>simp
   | succ n=>
    have l3:(bZ e).length=3:=rfl;rw[List.flatMap_cons,List.take_succ_cons,List.flatMap_cons,List.take_append,l3,List.take_of_length_le (by rw[l3];omega),show(n+1)*3-3=n*3 by omega,ih]
 have dr:∀(l:List JE) (n:Nat),(l.flatMap bZ).drop (n*3)=(l.drop n).flatMap bZ:=by
  intro l;induction l with
  | nil=>intro n;simp
  | cons e l ih=>
   intro n;cases n with
   | zero=>simp
   | succ n=>
    have l3:(bZ e).length=3:=rfl;rw[List.flatMap_cons,List.drop_succ_cons,List.drop_append,l3,List.drop_of_length_le (by rw[l3];omega),show(n+1)*3-3=n*3 by omega,ih,List.nil_append]
 unfold spl;rw[tk,cK,←Nat.add_mul,dr,List.flatMap_append,List.flatMap_append]
def Jsl(w:World)(v:Value)(es:List JE):Prop:=
 (v=.slice none 0 0∧es=[])∨∃g o cap xs,v=.slice (some ⟨g,o*3,none⟩) es.length cap∧IsC w g (iR xs) 187∧o+es.length≤xs.length∧(xs.drop o).take es.length=es
theorem Jsl.cells{w:World}{g o:Nat}{xs es:List JE}(h:IsC w g (iR xs) 187)(hl:o+es.length≤xs.length)(he:(xs.drop o).take es.length=es):∀j v,(es.flatMap bZ)[j]?=some v→w.cell? ((⟨g,o*3,none⟩:Addr).add j)=some v:=fun j v hj=>by
 have hadd:(⟨g,o*3,none⟩:Addr).add j=⟨g,o*3+j,none⟩:=by unfold Addr.add;split<;>simp_all
 rw[hadd,h.cell];have e1:spl (xs.flatMap bZ) (o*3) (es.flatMap bZ)=xs.flatMap bZ:=by
  rw[vB];congr 1;unfold spl;rw[←he,List.length_take,List.length_drop,List.append_assoc];rw[show min es.length (xs.length-o)=es.length by omega];rw[←List.drop_drop,List.take_append_drop,List.take_append_drop]
 have hjl:j <(es.flatMap bZ).length:=(List.getElem?_eq_some_iff.1 hj).1;have:(iR xs)[o*3+j]?=(xs.flatMap bZ)[o*3+j]?:=by simp[iR]
 rw[this,←e1];unfold spl;have hle:((xs.flatMap bZ).take (o*3)).length=o*3:=by
  rw[List.length_take,cK];omega
 rw[List.append_assoc,List.getElem?_append_right (by omega),hle,show o*3+j-o*3=j by omega,List.getElem?_append_left hjl];exact hj
theorem aMD(m:Nat):Builtin.zeroCells #[.int .i64 0,.int .i64 0,.pointer none] m=((List.replicate m j0).flatMap bZ).toArray:=by
 apply Array.toList_inj.1
 simp only[Builtin.zeroCells,List.size_toArray,List.length_cons,List.length_nil,Array.toList_map,Array.toList_range];induction m with
 | zero=>rfl
 | succ m ih=>
  have hr:List.range ((m+1)*3)=List.range (m*3)++[m*3,m*3+1,m*3+2]:=by
   rw[show(m+1)*3=m*3+1+1+1 by omega,List.range_succ,List.range_succ,List.range_succ];simp
  have hp:List.replicate (m+1) j0=List.replicate m j0++[j0]:=List.replicate_succ';rw[hp,List.flatMap_append,←ih];simp only[Nat.zero_add,Nat.reduceAdd];rw[hr,List.map_append];congr 1;simp only[List.map_cons,List.map_nil,show m*3 % 3=0 by omega,show(m*3+1) % 3=1 by omega,show(m*3+2) % 3=2 by omega];rfl
theorem aGC(a:Option Nat)(es junk vs:List JE)(v:Value)(W:World)(ha:∀g,a=some g→IsC W g (iR (es++junk)) 187)(hn:a=none→es=[]∧junk=[])(hv:Jsl W v vs)(h20:es.length+vs.length≤1000000)(hm:es.length+junk.length≤maxLen):
  ∃u W' a' junk',(∀ty,(Builtin.append_ #[69,69] ty #[.slice (adr a) es.length (es.length+junk.length),v]).run Tryz.prog W=.ok u W')∧u=.slice (adr a') (es.length+vs.length) (es.length+vs.length+junk'.length)∧
   (∀g,a'=some g→IsC W' g (iR (es++vs++junk')) 187∧(a=some g∨W.heap.size≤g))∧(a'=none→es=[]∧vs=[]∧junk'=[])∧es.length+vs.length+junk'.length≤maxLen∧Frm (fun k=>a=some k) W W':=by
 obtain⟨i0,hi,h3,h40,hz⟩:=aMF;have hsrc:Src Tryz.prog i0.size 69 v vs.length (vs.flatMap bZ) W:=by
  rcases hv with⟨rfl,rfl⟩ | ⟨gv,o,cap,xs,rfl,hx,hl,he⟩
  ·exact Src.ofNil W Tryz.underlying69 0
  ·exact Src.ofSlice W Tryz.underlying69 ⟨gv,o*3,none⟩ vs.length cap _ (by rw[cK,h3]) (Jsl.cells hx hl he) (aDS vs)
 by_cases hroom:vs.length≤junk.length
 ·cases a with
  | none=>
   obtain⟨rfl,rfl⟩:=hn rfl;have hv0:vs=[]:=List.length_eq_zero_iff.1 (by simpa using hroom);subst hv0;refine⟨_,W,none,[],fun ty=>?_,rfl,fun g q=>(by cases q),fun _=>⟨rfl,rfl,rfl⟩,by simp,Frm.refl _ _⟩;have:=run_append_nothing (P:=Tryz.prog) W 69 69 ty 187 i0 Tryz.underlying69 hi none 0 0 (nR _) v hsrc;exact this
  | some g=>
   have hg:=ha g rfl;refine⟨_,_,some g,junk.drop vs.length,fun ty=>run_append_room_src (P:=Tryz.prog) W 69 69 ty 187 i0 Tryz.underlying69 hi g 0 es.length (es.length+junk.length) v _ _ hsrc (by omega)
    (fun k hk=>by rw[cK]at hk;rw[hg.cell,h3,Array.getElem?_eq_getElem (by rw[aFE,lP];omega)];rfl) (fun k hk=>hg.frozen _),?_,fun g' q=>?_,fun q=>(by cases q),?_,?_⟩
   ·simp[adr];omega
   ·cases q
    refine⟨?_,.inl rfl⟩;have:=IsC.sets (vs.flatMap bZ) (cs:=(es++junk).flatMap bZ) (es.length*3) hg (by rw[cK,cK,lP];omega);rw[vB,aER _ _ _ hroom]at this;rw[h3,Nat.zero_add];exact this
   ·simp;omega
   ·exact Frm.sets (S:=fun k=>some g=some k) _ rfl _ _
 ·have hfc:(Builtin.firstCells i0.size es.length (.slice (adr a) es.length (es.length+junk.length))).run Tryz.prog W.drew=.ok (es.flatMap bZ).toArray W.drew:=by
   cases a with
   | none=>
    obtain⟨rfl,rfl⟩:=hn rfl;exact run_firstCells_none (P:=Tryz.prog) W.drew i0.size 0 0 0
   | some g=>
    have hg:=ha g rfl;exact run_firstCells_some (P:=Tryz.prog) W.drew i0.size es.length ⟨g,0,none⟩ es.length _ (es.flatMap bZ) (by rw[cK,h3]) (by
     have:=Jsl.cells (w:=W.drew) (g:=g) (o:=0) (xs:=es++junk) (es:=es) hg.drew (by rw[lP];omega) (by simp)
     rw[Nat.zero_mul]at this;exact this)
  have hr:=fun ty=>run_append_grow_src (P:=Tryz.prog) W 69 69 ty 187 i0 _ Tryz.underlying69 hi hz (adr a) es.length (es.length+junk.length) (es.flatMap bZ) hfc v vs.length (vs.flatMap bZ) hsrc (by omega) (by omega) (by rw[h40];exact aMI (by omega) (by omega));have hge:=grownCap_ge W (es.length+vs.length) (es.length+junk.length) 187;have hle:=grownCap_le_maxLen W (es.length+vs.length) (es.length+junk.length) 187 (by simp[maxLen];omega);generalize grownCap W (es.length+vs.length) (es.length+junk.length) 187=gc at *;refine⟨_,_,some W.heap.size,List.replicate (gc -(es.length+vs.length)) j0,hr,?_,fun g q=>?_,fun q=>(by cases q),?_,?_⟩
  ·simp[adr];omega
  ·cases q
   refine⟨?_,.inr (nR _)⟩;have hcl:(Value.agg #[.int .i64 0,.int .i64 0,.pointer none]).cells=#[.int .i64 0,.int .i64 0,.pointer none]:=by kernel_rfl
   have:=IsC.new W.drew ((es.flatMap bZ++vs.flatMap bZ).toArray++Builtin.zeroCells (Value.agg #[.int .i64 0,.int .i64 0,.pointer none]).cells (gc -(es.length+vs.length))) 187
   have e:iR (es++vs++List.replicate (gc -(es.length+vs.length)) j0)=(es.flatMap bZ++vs.flatMap bZ).toArray++Builtin.zeroCells (Value.agg #[.int .i64 0,.int .i64 0,.pointer none]).cells (gc -(es.length+vs.length)):=by
    rw[hcl,aMD];simp[iR]
   rw[e];exact this
  ·simp;omega
  ·exact(Frm.drew _ W).trans (Frm.alloc _ _ _)
def SvS(P m c n b:Nat)(cu0:Int)(x:Option Nat)(jv:Value)(w:World):Prop:=
 w.cell? ⟨P,3,none⟩=some (.map (some m))∧w.cell? ⟨P,4,none⟩=some (.slice (some ⟨c,0,none⟩) n n)∧w.cell? ⟨P,7,none⟩=some jv∧w.cell? ⟨c,b,none⟩=some (.int .i64 cu0)∧
  (Instr.lookup 68 (.map (some m)) (.int .i64 b) false).run Tryz.prog w=.ok (eY x) w
theorem aBM(w:World):Calls Tryz.prog 134 #[.pointer none] w fun e w'=>e=.returned (.pointer none)∧w'=w:=by
 go_enter Tryz.func134,Tryz.ntmps134
 go_wp2
 go_ret
 exact⟨rfl,rfl⟩
structure aKT(w w':World)(x x':Option Nat)(d:Nd):Prop where
 below:Bl w w'
 none:x=none→x'=none
 some:∀q,x=some q→∃q' a' j',x'=some q'∧w.heap.size≤q'∧(∀g,a'=some g→w.heap.size≤g)∧aM w' q' d a' j'
theorem yY(x:Option Nat)(d:Nd)(w:World)(hx:∀q,x=some q→∃a junk,aM w q d a junk)(h10:d.2.length≤10):
  Calls Tryz.prog 134 #[eY x] w fun e w'=>∃x',e=.returned (eY x')∧aKT w w' x x' d:=by
 cases x with
 | none=>
  refine(aBM w).mono ?_;rintro e w' ⟨rfl,rfl⟩;exact⟨none,rfl,bQ _ _,fun _=>rfl,fun q e=>by cases e⟩
 | some q=>
  obtain⟨a,junk,h⟩:=hx q rfl;refine(mY q d a junk w h h10).mono ?_;rintro e w' ⟨u,rfl,⟨q',a',j',rfl,h1,h2,h3⟩,hB⟩;exact⟨some q',rfl,hB,fun e=>(by cases e),fun q2 e=>⟨q',a',j',rfl,h1,h2,h3⟩⟩
theorem aIR(W:World)(x y:Int)(p:Option Addr):(Instr.build 187 #[(0,.int .i64 x),(1,.int .i64 y),(2,.pointer p)]).run Tryz.prog W=.ok (.agg #[.int .i64 x,.int .i64 y,.pointer p]) W:=by kernel_rfl
theorem aKE(W:World)(x y:Int)(p:Option Addr):(Instr.buildSlice 69 1 #[(0,.agg #[.int .i64 x,.int .i64 y,.pointer p])]).run Tryz.prog W=.ok (.slice (some ⟨W.heap.size,0,none⟩) 1 1) (W.alloc (.cells #[.int .i64 x,.int .i64 y,.pointer p] 187)):=by kernel_rfl
theorem mR{P:Program}{w:World}{o:Oper}{a:Act}{K:Act→World→Prop}{Q:Exit→Act→World→Prop}(s x:Operand)(t tn:TypeId)
  (ho:o.op=.call {callee:=.builtin .append,args:=#[s,x],argTypes:=#[t,tn]}) (vs vx:Value) (hs:a.eval s=vs) (hx:a.eval x=vx)
  (v':Value) (w':World) (hr:(Builtin.append_ #[t,tn] o.type #[vs,vx]).run P w=.ok v' w') (h:K (a.put o.dst v') w'):Oper.wp P o a w K Q:=by
 unfold Oper.wp execOp;simp only[ho,resolve,invoke,builtin,Sem.run_bind,Sem.run_pure,Result.andThen_ok,List.map_toArray,List.map_cons,List.map_nil,hs,hx,hr];exact h
theorem aHK(P m c n b:Nat)(rs cm tv:Value)(nx gn:Int)(cur:List Int)(φ:Nat→Option Nat)(ja:Option Nat)(js jj:List JE)(w:World)
  (hP:IsC w P #[rs,.int .i64 nx,.int .i64 gn,.map (some m),.slice (some ⟨c,0,none⟩) n n,cm,tv,.slice (adr ja) js.length (js.length+jj.length)] 71) (hc:IsC w c (cY cur) 2) (hn:cur.length=n) (hb:b<n) (hn5:n≤512) (hm:dR w m φ)
  (d:Nd) (hx:∀q,φ b=some q→∃a junk,aM w q d a junk) (h10:d.2.length≤10) (hj:∀g,ja=some g→IsC w g (iR (js++jj)) 187∧g≠P∧g≠m∧g≠c) (hjn:ja=none→js=[]∧jj=[]) (hjm:js.length+jj.length≤maxLen) (hjl:js.length≤900000):
  Calls Tryz.prog 132 #[.pointer (some ⟨P,0,none⟩),.int .i64 b] w fun e w'=>e=.returned (.tuple #[])∧∃x' ja' jj',IsC w' P #[rs,.int .i64 nx,.int .i64 gn,.map (some m),.slice (some ⟨c,0,none⟩) n n,cm,tv,.slice (adr ja') (js.length+1) (js.length+1+jj'.length)] 71∧
   (∀g,ja'=some g→IsC w' g (iR (js++[((b:Int),cur.getD b 0,x')]++jj')) 187∧(ja=some g∨w.heap.size≤g))∧ja'≠none∧js.length+1+jj'.length≤maxLen∧(∃w1,aKT w w1 (φ b) x' d∧Frm (fun k=>k=P∨ja=some k) w1 w')∧Frm (fun k=>k=P∨ja=some k) w w':=by
 have hcb:(cY cur)[b]?=some (.int .i64 (cur.getD b 0)):=by
  simp[cY,gD,show b<cur.length by omega]
 have hlk:=hm.lookup b (by omega);have hlkW:∀W:World,W.heap[m]?=w.heap[m]?→(Instr.lookup 68 (.map (some m)) (.int .i64 b) false).run Tryz.prog W=.ok (eY (φ b)) W:=fun W hW=>(hm.of hW).lookup b (by omega);generalize cur.getD b 0=cu0 at *;generalize φ b=x at *;have hPl:=hP.lt;have hcl:=hc.lt;have hml:=hm.lt;have hS:∀W:World,(∀k,k<w.heap.size→W.heap[k]?=w.heap[k]?)→SvS P m c n b cu0 x (.slice (adr ja) js.length (js.length+jj.length)) W:=fun W hW=>by
  have h1:IsC W P _ _:=hP.of (hW P hPl);have h2:IsC W c _ _:=hc.of (hW c hcl);exact⟨h1.c rfl,h1.c rfl,h1.c rfl,by rw[h2.cell];exact hcb,hlkW W (hW m hml)⟩
 have HS:Hid (∀W:World,(∀k,k<w.heap.size→W.heap[k]?=w.heap[k]?)→SvS P m c n b cu0 x (.slice (adr ja) js.length (js.length+jj.length)) W):=hS;have hq0:SvS P m c n b cu0 x (.slice (adr ja) js.length (js.length+jj.length)) w.drew:=hS w.drew (fun _ _=>rfl);have hbi:(b:Int) <(n:Int):=by omega
 have hbn:b<n:=hb;have HC:Hid (cur.length=n):=hn;have HB:Hid ((cY cur)[b]?=some (.int .i64 cu0)):=hcb;have HM:Hid (∀W:World,W.heap[m]?=w.heap[m]?→(Instr.lookup 68 (.map (some m)) (.int .i64 b) false).run Tryz.prog W=.ok (eY x) W):=hlkW;have hbd:=aIR;have hbs:=aKE;clear hS hlk hlkW hcb hn;go_enter Tryz.func132,Tryz.ntmps132;refine aZ (SvS P m c n b cu0 x (.slice (adr ja) js.length (js.length+jj.length))) 25 (by kernel_rfl) ?_;refine tJ 0 4 (.pointer (some ⟨P,0,none⟩)) rfl hq0 ?_;simp only[Act.put,sB,sZ,sS];refine tJ 1 5 (.pointer (some ⟨P,0,none⟩)) rfl hq0 ?_;simp only[Act.put,sB,sZ,sS];refine tJ 2 6 (.pointer (some ⟨P,0,none⟩)) rfl hq0 ?_;simp only[Act.put,sB,sZ,sS];refine tJ 3 7 (.pointer (some ⟨P,7,none⟩)) rfl hq0 ?_;simp only[Act.put,sB,sZ,sS];refine tJ 4 8 (.slice (adr ja) js.length (js.length+jj.length)) rfl hq0 ?_;simp only[Act.put,sB,sZ,sS];refine tJ 5 9 (.int .i64 b) rfl hq0 ?_;simp only[Act.put,sB,sZ,sS];refine tJ 6 10 (.pointer (some ⟨P,0,none⟩)) rfl hq0 ?_;simp only[Act.put,sB,sZ,sS];refine tJ 7 11 (.pointer (some ⟨P,0,none⟩)) rfl hq0 ?_;simp only[Act.put,sB,sZ,sS];refine tJ 8 12 (.pointer (some ⟨P,4,none⟩)) rfl hq0 ?_;simp only[Act.put,sB,sZ,sS];refine tJ 9 13 (.slice (some ⟨c,0,none⟩) n n) rfl hq0 ?_;simp only[Act.put,sB,sZ,sS];refine tJ 10 14 (.int .i64 b) rfl hq0 ?_;simp only[Act.put,sB,sZ,sS];refine tJ 11 15 (.pointer (some ⟨c,b,none⟩)) rfl hq0 ?_;simp only[Act.put,sB,sZ,sS];refine tJ 12 16 (.int .i64 cu0) rfl hq0 ?_;simp only[Act.put,sB,sZ,sS];refine tJ 13 17 (.pointer (some ⟨P,0,none⟩)) rfl hq0 ?_;simp only[Act.put,sB,sZ,sS];refine tJ 14 18 (.pointer (some ⟨P,0,none⟩)) rfl hq0 ?_;simp only[Act.put,sB,sZ,sS];refine tJ 15 19 (.pointer (some ⟨P,3,none⟩)) rfl hq0 ?_;simp only[Act.put,sB,sZ,sS];refine tJ 16 20 (.map (some m)) rfl hq0 ?_;simp only[Act.put,sB,sZ,sS];refine tJ 17 21 (.int .i64 b) rfl hq0 ?_;simp only[Act.put,sB,sZ,sS];refine tJ 18 22 (eY x) rfl hq0 ?_;simp only[Act.put,sB,sZ,sS];refine oE 19 rfl fun K2 hK2=>?_;go_simp;refine(yY x d _ (fun q e=>by obtain⟨a,j,h⟩:=hx q e;exact⟨a,j,h.below (bQ _ _).drew⟩) h10).mono ?_;rintro e w1 ⟨x',rfl,hCo⟩;have hB1:Bl w w1:=(bQ w.heap.size w).drew.trans hCo.below;refine hK2 _ _ (fun _=>HS.out w1 fun k hk=>hB1.block k hk) ?_;clear hK2 K2 hq0;have hq1:=HS.out w1 fun k hk=>hB1.block k hk;have hCo':aKT w w1 x x' d:=⟨hB1,hCo.none,hCo.some⟩;clear hCo;obtain⟨p',hp'⟩:∃p',eY x'=.pointer p':=⟨_,rfl⟩;rw[hp'];refine oE 20 rfl fun K2 hK2=>?_;go_simp;refine hK2 _ _ (fun _=>hq1) ?_;clear hK2 K2;refine oE 21 rfl fun K2 hK2=>?_;go_simp;obtain⟨Y,HY⟩:=exH (w1.heap.size);obtain⟨W2,HW2⟩:=exH (w1.alloc (.cells #[.int .i64 b,.int .i64 cu0,.pointer p'] 187));rw[←HW2.out,←HY.out];have hN2:IsC W2 Y (iR [((b:Int),cu0,x')]) 187:=by rw[HW2.out,HY.out,←hp'];exact IsC.new _ _ _
 have hB2:Bl w1 W2:=by rw[HW2.out];exact(bQ w1.heap.size w1).alloc (nR _) _
 have hB12:=hB1.trans (hB2.mono hB1.size);have hY:w.heap.size≤Y:=by rw[HY.out];exact hB1.size
 clear HW2;have hq2:=HS.out W2 fun k hk=>hB12.block k hk;refine hK2 _ _ (fun _=>hq2) ?_;clear hK2 K2 hq1;obtain⟨u,W3,ja',jj',hr,hu,h1,h2,h3,h4⟩:=aGC ja js jj [((b:Int),cu0,x')] (.slice (some ⟨Y,0,none⟩) 1 1) W2 (fun g e=>(hj g e).1.of (hB12.block g (hj g e).1.lt)) hjn (.inr ⟨Y,0,1,[((b:Int),cu0,x')],by simp,hN2,by simp,by simp⟩) (by simp;omega) hjm;simp only[List.length_cons,List.length_nil,Nat.zero_add]at hu h1 h3;refine oE 22 rfl fun K2 hK2=>?_;refine mR (.tmp 8) (.tmp 25) _ _ (by rfl) (.slice (adr ja) js.length (js.length+jj.length)) (.slice (some ⟨Y,0,none⟩) 1 1) (by rfl) (by rfl) u W3 (hr _) ?_;have hb3:∀k,k<w.heap.size→ja≠some k→W3.heap[k]?=w.heap[k]?:=fun k hk hn=>by
  rw[h4.block k (lL hk hB12.size) hn,hB12.block k hk]
 have hjP:ja≠some P:=fun e=>(hj P e).2.1 rfl;have hjm':ja≠some m:=fun e=>(hj m e).2.2.1 rfl;have hjc:ja≠some c:=fun e=>(hj c e).2.2.2 rfl;have hP3:IsC W3 P _ _:=hP.of (hb3 P hPl hjP);have hc3:IsC W3 c _ _:=hc.of (hb3 c hcl hjc);have hm3:=HM.out W3 (hb3 m hml hjm');have hq3:SvS P m c n b cu0 x (.slice (adr ja) js.length (js.length+jj.length)) W3:=⟨hP3.c rfl,hP3.c rfl,hP3.c rfl,by rw[hc3.cell];exact HB.out,hm3⟩;refine hK2 _ _ (fun _=>hq3) ?_;clear hK2 K2 hq2;subst hu;simp only[Act.put,sB,sZ,sS];have hfz:=hP3.frozen 7;have hc7:W3.cell? ⟨P,7,none⟩=some (.slice (adr ja) js.length (js.length+jj.length)):=hP3.c rfl;refine oE 23 rfl fun K2 hK2=>?_;go_simp;refine hK2 _ _ (fun _=>hq3) ?_;clear hK2 K2;refine oE 24 rfl fun K2 hK2=>?_;go_simp;refine hK2 _ _ (fun _=>hq3) ?_;clear hK2 K2;refine oE 25 rfl fun K2 hK2=>?_;go_simp;refine hK2 _ _ (fun q=>absurd rfl q) ?_;clear hK2 K2;refine aV (by kernel_rfl) ?_ _;go_wp2;go_end0;have hne:ja'≠none:=fun e=>by have:=(h2 e).2.1;simp at this
 have hfin:=hP3.set 7 (.slice (adr ja') (js.length+1) (js.length+1+jj'.length));have hF3:Frm (fun k=>k=P∨ja=some k) w W3:=(Frm.of_below hB12).next h4 fun x _ h=>.inr h;have hF3':Frm (fun k=>k=P∨ja=some k) w1 W3:=(Frm.of_below hB2).next h4 fun x _ h=>.inr h;have hja':∀g,ja'=some g→g≠P:=fun g e e'=>by
  subst e';rcases(h1 g e).2 with h | h
  ·exact hjP h
  ·have:=hB12.size;omega
 refine⟨rfl,x',ja',jj',hfin,fun g e=>⟨((h1 g e).1).set_ne _ (hja' g e),?_⟩,hne,h3,⟨w1,hCo',hF3'.put _ _ fun _=>.inl rfl⟩,hF3.put _ _ fun _=>.inl rfl⟩;rcases(h1 g e).2 with h | h
 ·exact .inl h
 ·exact .inr (lT hB12.size h)
def aS(t:Int×Int):List Value:=[.int .i64 t.1,.int .i64 t.2]
def cO(l:List (Int×Int)):Array Value:=(l.flatMap aS).toArray
theorem bL(l:List (Int×Int)):(l.flatMap aS).length=l.length*2:=by
 induction l with
 | nil=>rfl
 | cons e es ih=>simp only[List.flatMap_cons,lP,ih,List.length_cons];simp[aS];omega
theorem kM(l:List (Int×Int)){i:Nat}(hi:i<l.length):(cO l)[i*2]?=some (.int .i64 (l.getD i (0,0)).1)∧(cO l)[i*2+1]?=some (.int .i64 (l.getD i (0,0)).2):=by
 unfold cO;rw[List.getElem?_toArray,List.getElem?_toArray];induction l generalizing i with
 | nil=>simp at hi
 | cons e es ih=>
  cases i with
  | zero=>simp[aS]
  | succ i=>
   have:=ih (i:=i) (by simpa using hi)
   have e1:(e :: es).flatMap aS=aS e++es.flatMap aS:=List.flatMap_cons;have l3:(aS e).length=2:=rfl;rw[e1];rw[List.getElem?_append_right (by rw[l3];omega),List.getElem?_append_right (by rw[l3];omega),l3];rw[show(i+1)*2-2=i*2 by omega,show(i+1)*2+1-2=i*2+1 by omega];simpa using this
def cE(b:Nat):Nat:=10+4*b
def cC(b:Nat):Nat:=11+4*b
def jS(i:Nat):Nat:=12+4*i
def jV(i:Nat):Nat:=13+4*i
def isJ(r:Nat):Prop:=r=6∨(12≤r∧r % 4<2)
def isN(r:Nat):Prop:=r≠0∧¬isJ r
structure Adr where
 ra:Nat
 rj:List (Int×Int)
 m:Nat
 c:Nat
 d:Nat
 dj:List Value
 tv:Value
 φ:Nat→Option Nat
 α:Nat→Option Nat
def jE(c:List Int)(dj:List Value):Array Value:=(c.map (Value.int .i64)++dj).toArray
def dC(A:Adr)(f:fZ)(jv:Value):Array Value:=#[.slice (some ⟨A.ra,0,none⟩) f.roots.length (f.roots.length+A.rj.length),.int .i64 f.next,.int .i64 f.gen,.map (some A.m),.slice (some ⟨A.c,0,none⟩) f.cur.length f.cur.length,.slice (some ⟨A.d,0,none⟩) f.com.length (f.com.length+A.dj.length),A.tv,jv]
def Nod(w:World)(ρ:Nat→Nat)(A:Adr)(b:Nat)(d:Nd):Prop:=
 ∃q,A.φ b=some q∧ρ q=cE b∧(∀g,A.α b=some g→ρ g=cC b)∧∃junk,aM w q d (A.α b) junk
structure Rp(w:World)(ρ:Nat→Nat)(P:Nat)(A:Adr)(f:fZ)(jv:Value):Prop where
 own:∀k,ρ k≠0→k<w.heap.size
 hP:IsC w P (dC A f jv) 71
 rP:ρ P=1
 hr:IsC w A.ra (cO (f.roots++A.rj)) 77
 rr:ρ A.ra=2
 hm:dR w A.m A.φ
 rm:ρ A.m=3
 hc:IsC w A.c (cY f.cur) 2
 rc:ρ A.c=4
 hd:IsC w A.d (jE f.com A.dj) 2
 rd:ρ A.d=5
 nd:∀b d,f.nodes b=some d→Nod w ρ A b d
 no:∀b,f.nodes b=none→A.φ b=none
 rs:f.roots.length+A.rj.length≤maxLen
 ds:f.com.length+A.dj.length≤maxLen
structure Kp(S:Nat→Prop)(w:World)(ρ:Nat→Nat)(w':World)(ρ':Nat→Nat):Prop where
 frm:Frm S w w'
 rol:∀x,x<w.heap.size→isN (ρ x)→ρ' x=ρ x
 own:∀x,ρ' x≠0→x<w'.heap.size
theorem vI:isN 1:=by unfold isN isJ;omega
theorem aCI:isN 2:=by unfold isN isJ;omega
theorem vM:isN 3:=by unfold isN isJ;omega
theorem aDF:isN 4:=by unfold isN isJ;omega
theorem aFX:isN 5:=by unfold isN isJ;omega
theorem wN(b:Nat):isN (cE b):=by unfold isN isJ cE;omega
theorem vZ(b:Nat):isN (cC b):=by unfold isN isJ cC;omega
theorem aGG:isJ 6:=by unfold isJ;omega
theorem qR(i:Nat):isJ (jS i):=by unfold isJ jS;omega
theorem qU(i:Nat):isJ (jV i):=by unfold isJ jV;omega
variable {w w' : World} {ρ ρ' : Nat → Nat} {P : Nat} {A : Adr} {f : fZ} {jv : Value} {S : Nat → Prop}
theorem Nod.kp(k:Kp S w ρ w' ρ'){b:Nat}{d:Nd}(h:Nod w ρ A b d)(hb:∀x,ρ x=cE b∨ρ x=cC b→¬S x)(ho:∀x,ρ x≠0→x<w.heap.size):Nod w' ρ' A b d:=by
 obtain⟨q,h1,h2,h3,j,h4⟩:=h;have hq:q<w.heap.size:=h4.box.lt;refine⟨q,h1,by rw[k.rol q hq (h2▸wN b),h2],fun g e=>?_,j,h4.frm k.frm (hb q (.inl h2)) fun g e=>hb g (.inr (h3 g e))⟩;have:=h3 g e;rw[k.rol g (ho g (by rw[this];unfold cC;omega)) (this▸vZ b),this]
theorem Rp.gen(h:Rp w ρ P A f jv)(k:Kp S w ρ w' ρ'){A':Adr}{f':fZ}{jv':Value}
  (hP:(¬S P∧dC A' f' jv'=dC A f jv)∨IsC w' P (dC A' f' jv') 71)
  (hr:(¬S A.ra∧A'.ra=A.ra∧f'.roots++A'.rj=f.roots++A.rj)∨(IsC w' A'.ra (cO (f'.roots++A'.rj)) 77∧ρ' A'.ra=2))
  (hm:(¬S A.m∧A'.φ=A.φ)∨dR w' A.m A'.φ) (em:A'.m=A.m)
  (hc:(¬S A.c∧f'.cur=f.cur)∨IsC w' A.c (cY f'.cur) 2) (ec:A'.c=A.c)
  (hd:(¬S A.d∧A'.d=A.d∧jE f'.com A'.dj=jE f.com A.dj)∨(IsC w' A'.d (jE f'.com A'.dj) 2∧ρ' A'.d=5))
  (nd:∀b d,f'.nodes b=some d→(f.nodes b=some d∧A'.φ b=A.φ b∧A'.α b=A.α b∧∀x,ρ x=cE b∨ρ x=cC b→¬S x)∨Nod w' ρ' A' b d)
  (no:∀b,f'.nodes b=none→A'.φ b=none) (rs:f'.roots.length+A'.rj.length≤maxLen) (ds:f'.com.length+A'.dj.length≤maxLen):Rp w' ρ' P A' f' jv':=by
 have rol:∀{x r},ρ x=r→isN r→ρ' x=r:=fun {x r} e hr=>by
  rw[k.rol x (h.own x (by rw[e];exact hr.1)) (e▸hr),e]
 have ob:=h.own;refine⟨k.own,?_,rol h.rP vI,?_,?_,?_,by rw[em];exact rol h.rm vM,?_,by rw[ec];exact rol h.rc aDF,?_,?_,?_,no,rs,ds⟩
 ·rcases hP with⟨h1,h2⟩ | h1
  ·rw[h2];exact h.hP.frm k.frm h1
  ·exact h1
 ·rcases hr with⟨h1,h2,h3⟩ | h1
  ·rw[h2,h3];exact h.hr.frm k.frm h1
  ·exact h1.1
 ·rcases hr with⟨h1,h2,h3⟩ | h1
  ·rw[h2];exact rol h.rr aCI
  ·exact h1.2
 ·rcases hm with⟨h1,h2⟩ | h1
  ·rw[em,h2];exact h.hm.of (k.frm.block _ h.hm.lt h1)
  ·rw[em];exact h1
 ·rcases hc with⟨h1,h2⟩ | h1
  ·rw[ec,h2];exact h.hc.frm k.frm h1
  ·rw[ec];exact h1
 ·rcases hd with⟨h1,h2,h3⟩ | h1
  ·rw[h2,h3];exact h.hd.frm k.frm h1
  ·exact h1.1
 ·rcases hd with⟨h1,h2,h3⟩ | h1
  ·rw[h2];exact rol h.rd aFX
  ·exact h1.2
 ·intro b d hb
  rcases nd b d hb with⟨h1,h2,h3,h4⟩ | h1
  ·have:=(h.nd b d h1).kp k h4 ob
   unfold Nod at *;rw[h2,h3];exact this
  ·exact h1
theorem Rp.frm(h:Rp w ρ P A f jv)(k:Kp S w ρ w' ρ')(hS:∀x,x<w.heap.size→S x→¬isN (ρ x)):Rp w' ρ' P A f jv:=by
 have no:∀{x r},ρ x=r→isN r→¬S x:=fun {x r} e hr hs=>hS x (h.own x (by rw[e];exact hr.1)) hs (e▸hr);refine h.gen k (.inl ⟨no h.rP vI,rfl⟩) (.inl ⟨no h.rr aCI,rfl,rfl⟩) (.inl ⟨no h.rm vM,rfl⟩) rfl (.inl ⟨no h.rc aDF,rfl⟩) rfl (.inl ⟨no h.rd aFX,rfl,rfl⟩) (fun b d hb=>.inl ⟨hb,rfl,rfl,fun x hx=>?_⟩) h.no h.rs h.ds;rcases hx with e | e
 ·exact no e (wN b)
 ·exact no e (vZ b)
structure JrL(w:World)(ρ:Nat→Nat)(ja:Option Nat)(jp jj:List JE)(J:List aR):Prop where
 arr:∀g,ja=some g→IsC w g (iR (jp++jj)) 187∧ρ g=6
 nil:ja=none→jp=[]∧jj=[]
 small:jp.length+jj.length≤maxLen
 len:jp.length=J.length
 row:∀i,i<J.length→(jp.getD i j0).1=((J.getD i jr0).1:Int)∧(jp.getD i j0).2.1=(J.getD i jr0).2.1∧
  (match (J.getD i jr0).2.2 with
  | none=>(jp.getD i j0).2.2=none
  | some d=>∃q a junk,(jp.getD i j0).2.2=some q∧ρ q=jS i∧(∀g,a=some g→ρ g=jV i)∧aM w q d a junk)
theorem JrL.start(w:World)(ρ:Nat→Nat):JrL w ρ none [] [] []:=⟨fun g e=>(by cases e),fun _=>⟨rfl,rfl⟩,by simp[maxLen],rfl,fun i hi=>(by simp at hi)⟩
theorem JrL.frm{ja:Option Nat}{jp jj:List JE}{J:List aR}(h:JrL w ρ ja jp jj J)(k:Frm S w w')(ho:∀x,ρ x≠0→x<w.heap.size)(hS:∀x,S x→¬isJ (ρ x))(hρ:∀x,x<w.heap.size→isJ (ρ x)→ρ' x=ρ x):JrL w' ρ' ja jp jj J:=by
 have no:∀{x r},ρ x=r→isJ r→¬S x:=fun {x r} e hr hs=>hS x hs (e▸hr);have rol:∀{x r},ρ x=r→isJ r→ρ' x=r:=fun {x r} e hr=>by
  rw[hρ x (ho x (by rw[e];intro q;subst q;unfold isJ at hr;omega)) (e▸hr),e]
 refine⟨fun g e=>?_,h.nil,h.small,h.len,fun i hi=>?_⟩
 ·obtain⟨h1,h2⟩:=h.arr g e
  exact⟨h1.frm k (no h2 aGG),rol h2 aGG⟩
 ·obtain⟨h1,h2,h3⟩:=h.row i hi
  refine⟨h1,h2,?_⟩;cases e:(J.getD i jr0).2.2 with
  | none=>rw[e]at h3;exact h3
  | some d=>
   rw[e]at h3;obtain⟨q,a,junk,k1,k2,k3,k4⟩:=h3;exact⟨q,a,junk,k1,rol k2 (qR i),fun g e=>rol (k3 g e) (qU i),k4.frm k (no k2 (qR i)) fun g e=>no (k3 g e) (qU i)⟩
def Jr(w:World)(ρ:Nat→Nat)(ja:Option Nat)(jp jj:List JE)(J:List aR):Prop:=J.length≤900001→JrL w ρ ja jp jj J
theorem Jr.frm{ja:Option Nat}{jp jj:List JE}{J:List aR}(h:Jr w ρ ja jp jj J)(k:Frm S w w')(ho:∀x,ρ x≠0→x<w.heap.size)(hS:∀x,S x→¬isJ (ρ x))(hρ:∀x,x<w.heap.size→isJ (ρ x)→ρ' x=ρ x):Jr w' ρ' ja jp jj J:=fun hl=>(h hl).frm k ho hS hρ
def fK:List aR:=List.replicate 1000000 jr0
theorem vA:¬fK.length≤900001:=by unfold fK;rw[List.length_replicate];omega
def aGO(ja:Option Nat)(jp jj:List JE):Value:=.slice (adr ja) jp.length (jp.length+jj.length)
def St(w:World)(ρ:Nat→Nat)(P:Nat)(A:Adr)(f:fZ)(J:List aR):Prop:=
 ∃ja jp jj,Rp w ρ P A f (aGO ja jp jj)∧Jr w ρ ja jp jj J
structure Mv(X:Nat→Prop)(w:World)(ρ:Nat→Nat)(w':World)(ρ':Nat→Nat):Prop where
 frm:Frm (fun k=>ρ k≠0∨X k) w w'
 rol:∀x,x<w.heap.size→¬X x→ρ' x=ρ x
theorem Mv.refl(X:Nat→Prop)(w:World)(ρ:Nat→Nat):Mv X w ρ w ρ:=⟨Frm.refl _ _,fun _ _ _=>rfl⟩
theorem Mv.trans{X:Nat→Prop}{w1 w2 w3:World}{ρ1 ρ2 ρ3:Nat→Nat}(a:Mv X w1 ρ1 w2 ρ2){Y:Nat→Prop}(b:Mv Y w2 ρ2 w3 ρ3)(hY:∀x,x<w1.heap.size→Y x→X x):Mv X w1 ρ1 w3 ρ3:=by
 refine⟨a.frm.next b.frm fun x hx h=>?_,fun x hx hn=>?_⟩
 ·by_cases e:X x
  ·exact .inr e
  ·rcases h with h | h
   ·left;rw[←a.rol x hx e];exact h
   ·exact .inr (hY x hx h)
 ·rw[b.rol x (lL hx a.frm.size) (fun q=>hn (hY x hx q)),a.rol x hx hn]
theorem Mv.up{X Y:Nat→Prop}(a:Mv X w ρ w' ρ')(h:∀x,x<w.heap.size→X x→Y x):Mv Y w ρ w' ρ':=
 ⟨a.frm.wide fun k hk h'=>h'.imp id (h k hk),fun x hx hn=>a.rol x hx fun q=>hn (h x hx q)⟩
