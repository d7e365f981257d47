import Derived.Stop.RegionWithIn
import Derived.Test.YtaahkgkdpnnhhaaGreatHq14
set_option maxHeartbeats 9999999
set_option maxRecDepth 99999
set_option linter.all false
namespace Go.Proofs.YtaahkgkdpnnhhaaGreat
open Go.RowKit Fo
abbrev t0:Int×Int:=(0,0)
theorem vG(l:List (Int×Int)):(cO l).size=l.length*2:=by unfold cO;rw[List.size_toArray,bL]
theorem aLG:(Tryz.prog.info? 77).map (fun i=>(i.zero,i.size,i.bytes))=some (some (.agg #[.int .i64 0,.int .i64 0]),2,16):=by kernel_rfl
theorem aCN:∃i,Tryz.prog.info? 77=some i∧i.size=2∧i.bytes=16∧i.zero=some (.agg #[.int .i64 0,.int .i64 0]):=by
 have h:=aLG;cases e:Tryz.prog.info? 77 with
 | none=>rw[e]at h;cases h
 | some i=>
  rw[e]at h;simp only[Option.map_some,sJ,Prod.mk.injEq]at h;exact⟨i,rfl,h.2.1,h.2.2,h.1⟩
theorem aDR(es junk vs:List (Int×Int))(h:vs.length≤junk.length):spl (es++junk) es.length vs=es++vs++junk.drop vs.length:=by
 unfold spl;rw[List.take_left,←List.drop_drop,List.drop_left]
theorem aMN{need old:Nat}(h:need≤1000000)(ho:old<need):Builtin.nextslicecap need old*16≤281474976710656:=growslice_fits (bytes:=16) (need:=need) (old:=old) (by omega) (by omega)
theorem lM(es:List (Int×Int)):∀v∈es.flatMap aS,v.oneCell'=true:=fun v hv=>by
 obtain⟨e,_,he⟩:=List.mem_flatMap.1 hv;simp only[aS,List.mem_cons,List.not_mem_nil,or_false]at he;rcases he with rfl | rfl<;>rfl
theorem vD(xs ys:List (Int×Int))(i:Nat):spl (xs.flatMap aS) (i*2) (ys.flatMap aS)=(spl xs i ys).flatMap aS:=by
 have tk:∀(l:List (Int×Int)) (n:Nat),(l.flatMap aS).take (n*2)=(l.take n).flatMap aS:=by
  intro l;induction l with
  | nil=>intro n;simp
  | cons e l ih=>
   intro n;cases n with
   | zero=>simp
   | succ n=>
    have l3:(aS e).length=2:=rfl;rw[List.flatMap_cons,List.take_succ_cons,List.flatMap_cons,List.take_append,l3,List.take_of_length_le (by rw[l3];omega),show(n+1)*2-2=n*2 by omega,ih]
 have dr:∀(l:List (Int×Int)) (n:Nat),(l.flatMap aS).drop (n*2)=(l.drop n).flatMap aS:=by
  intro l;induction l with
  | nil=>intro n;simp
  | cons e l ih=>
   intro n;cases n with
   | zero=>simp
   | succ n=>
    have l3:(aS e).length=2:=rfl;rw[List.flatMap_cons,List.drop_succ_cons,List.drop_append,l3,List.drop_of_length_le (by rw[l3];omega),show(n+1)*2-2=n*2 by omega,ih,List.nil_append]
 unfold spl;rw[tk,bL,←Nat.add_mul,dr,List.flatMap_append,List.flatMap_append]
def Tsl(w:World)(v:Value)(es:List (Int×Int)):Prop:=
 (v=.slice none 0 0∧es=[])∨∃g o cap xs,v=.slice (some ⟨g,o*2,none⟩) es.length cap∧IsC w g (cO xs) 77∧o+es.length≤xs.length∧(xs.drop o).take es.length=es
theorem Tsl.cells{w:World}{g o:Nat}{xs es:List (Int×Int)}(h:IsC w g (cO xs) 77)(hl:o+es.length≤xs.length)(he:(xs.drop o).take es.length=es):∀j v,(es.flatMap aS)[j]?=some v→w.cell? ((⟨g,o*2,none⟩:Addr).add j)=some v:=fun j v hj=>by
 have hadd:(⟨g,o*2,none⟩:Addr).add j=⟨g,o*2+j,none⟩:=by unfold Addr.add;split<;>simp_all
 rw[hadd,h.cell];have e1:spl (xs.flatMap aS) (o*2) (es.flatMap aS)=xs.flatMap aS:=by
  rw[vD];congr 1;unfold spl;rw[←he,List.length_take,List.length_drop,List.append_assoc];rw[show min es.length (xs.length-o)=es.length by omega];rw[←List.drop_drop,List.take_append_drop,List.take_append_drop]
 have hjl:j <(es.flatMap aS).length:=(List.getElem?_eq_some_iff.1 hj).1;have:(cO xs)[o*2+j]?=(xs.flatMap aS)[o*2+j]?:=by simp[cO]
 rw[this,←e1];unfold spl;have hle:((xs.flatMap aS).take (o*2)).length=o*2:=by
  rw[List.length_take,bL];omega
 rw[List.append_assoc,List.getElem?_append_right (by omega),hle,show o*2+j-o*2=j by omega,List.getElem?_append_left hjl];exact hj
theorem aGY(m:Nat):Builtin.zeroCells #[.int .i64 0,.int .i64 0] m=((List.replicate m t0).flatMap aS).toArray:=by
 apply Array.toList_inj.1
 simp only[Builtin.zeroCells,List.size_toArray,List.length_cons,List.length_nil,Array.toList_map,Array.toList_range];induction m with
 | zero=>rfl
 | succ m ih=>
  have hr:List.range ((m+1)*2)=List.range (m*2)++[m*2,m*2+1]:=by
   rw[show(m+1)*2=m*2+1+1 by omega,List.range_succ,List.range_succ];simp
  have hp:List.replicate (m+1) t0=List.replicate m t0++[t0]:=List.replicate_succ';rw[hp,List.flatMap_append,←ih];simp only[Nat.zero_add,Nat.reduceAdd];rw[hr,List.map_append];congr 1;simp only[List.map_cons,List.map_nil,show m*2 % 2=0 by omega,show(m*2+1) % 2=1 by omega];rfl
theorem aFZ(a:Option Nat)(es junk vs:List (Int×Int))(v:Value)(W:World)(ha:∀g,a=some g→IsC W g (cO (es++junk)) 77)(hn:a=none→es=[]∧junk=[])(hv:Tsl W v vs)(h20:es.length+vs.length≤1000000)(hm:es.length+junk.length≤maxLen):
  ∃u W' a' junk',(∀ty,(Builtin.append_ #[55,55] ty #[.slice (adr a) es.length (es.length+junk.length),v]).run Tryz.prog W=.ok u W')∧u=.slice (adr a') (es.length+vs.length) (es.length+vs.length+junk'.length)∧
   (∀g,a'=some g→IsC W' g (cO (es++vs++junk')) 77∧(a=some g∨W.heap.size≤g))∧(a'=none→es=[]∧vs=[]∧junk'=[])∧es.length+vs.length+junk'.length≤maxLen∧Frm (fun k=>a=some k) W W':=by
 obtain⟨i0,hi,h3,h40,hz⟩:=aCN;have hsrc:Src Tryz.prog i0.size 55 v vs.length (vs.flatMap aS) W:=by
  rcases hv with⟨rfl,rfl⟩ | ⟨gv,o,cap,xs,rfl,hx,hl,he⟩
  ·exact Src.ofNil W Tryz.underlying55 0
  ·exact Src.ofSlice W Tryz.underlying55 ⟨gv,o*2,none⟩ vs.length cap _ (by rw[bL,h3]) (Tsl.cells hx hl he) (lM vs)
 by_cases hroom:vs.length≤junk.length
 ·cases a with
  | none=>
   obtain⟨rfl,rfl⟩:=hn rfl;have hv0:vs=[]:=List.length_eq_zero_iff.1 (by simpa using hroom);subst hv0;refine⟨_,W,none,[],fun ty=>?_,rfl,fun g q=>(by cases q),fun _=>⟨rfl,rfl,rfl⟩,by simp,Frm.refl _ _⟩;have:=run_append_nothing (P:=Tryz.prog) W 55 55 ty 77 i0 Tryz.underlying55 hi none 0 0 (nR _) v hsrc;exact this
  | some g=>
   have hg:=ha g rfl;refine⟨_,_,some g,junk.drop vs.length,fun ty=>run_append_room_src (P:=Tryz.prog) W 55 55 ty 77 i0 Tryz.underlying55 hi g 0 es.length (es.length+junk.length) v _ _ hsrc (by omega)
    (fun k hk=>by rw[bL]at hk;rw[hg.cell,h3,Array.getElem?_eq_getElem (by rw[vG,lP];omega)];rfl) (fun k hk=>hg.frozen _),?_,fun g' q=>?_,fun q=>(by cases q),?_,?_⟩
   ·simp[adr];omega
   ·cases q
    refine⟨?_,.inl rfl⟩;have:=IsC.sets (vs.flatMap aS) (cs:=(es++junk).flatMap aS) (es.length*2) hg (by rw[bL,bL,lP];omega);rw[vD,aDR _ _ _ hroom]at this;rw[h3,Nat.zero_add];exact this
   ·simp;omega
   ·exact Frm.sets (S:=fun k=>some g=some k) _ rfl _ _
 ·have hfc:(Builtin.firstCells i0.size es.length (.slice (adr a) es.length (es.length+junk.length))).run Tryz.prog W.drew=.ok (es.flatMap aS).toArray W.drew:=by
   cases a with
   | none=>
    obtain⟨rfl,rfl⟩:=hn rfl;exact run_firstCells_none (P:=Tryz.prog) W.drew i0.size 0 0 0
   | some g=>
    have hg:=ha g rfl;exact run_firstCells_some (P:=Tryz.prog) W.drew i0.size es.length ⟨g,0,none⟩ es.length _ (es.flatMap aS) (by rw[bL,h3]) (by
     have:=Tsl.cells (w:=W.drew) (g:=g) (o:=0) (xs:=es++junk) (es:=es) hg.drew (by rw[lP];omega) (by simp)
     rw[Nat.zero_mul]at this;exact this)
  have hr:=fun ty=>run_append_grow_src (P:=Tryz.prog) W 55 55 ty 77 i0 _ Tryz.underlying55 hi hz (adr a) es.length (es.length+junk.length) (es.flatMap aS) hfc v vs.length (vs.flatMap aS) hsrc (by omega) (by omega) (by rw[h40];exact aMN (by omega) (by omega));have hge:=grownCap_ge W (es.length+vs.length) (es.length+junk.length) 77;have hle:=grownCap_le_maxLen W (es.length+vs.length) (es.length+junk.length) 77 (by simp[maxLen];omega);generalize grownCap W (es.length+vs.length) (es.length+junk.length) 77=gc at *;refine⟨_,_,some W.heap.size,List.replicate (gc -(es.length+vs.length)) t0,hr,?_,fun g q=>?_,fun q=>(by cases q),?_,?_⟩
  ·simp[adr];omega
  ·cases q
   refine⟨?_,.inr (nR _)⟩;have hcl:(Value.agg #[.int .i64 0,.int .i64 0]).cells=#[.int .i64 0,.int .i64 0]:=by kernel_rfl
   have:=IsC.new W.drew ((es.flatMap aS++vs.flatMap aS).toArray++Builtin.zeroCells (Value.agg #[.int .i64 0,.int .i64 0]).cells (gc -(es.length+vs.length))) 77
   have e:cO (es++vs++List.replicate (gc -(es.length+vs.length)) t0)=(es.flatMap aS++vs.flatMap aS).toArray++Builtin.zeroCells (Value.agg #[.int .i64 0,.int .i64 0]).cells (gc -(es.length+vs.length)):=by
    rw[hcl,aGY];simp[cO]
   rw[e];exact this
  ·simp;omega
  ·exact(Frm.drew _ W).trans (Frm.alloc _ _ _)
structure aMJ(w w':World)(v:Value)(es:List (Int×Int)):Prop where
 ex:∃a junk,v=.slice (adr a) es.length (es.length+junk.length)∧(∀g,a=some g→w.heap.size≤g∧IsC w' g (cO (es++junk)) 77)∧(a=none→es=[]∧junk=[])∧es.length+junk.length≤maxLen
 below:Bl w w'
theorem aBC(v:Value)(es:List (Int×Int))(w:World)(hv:Tsl w v es)(h10:es.length≤100):
  Calls Tryz.prog 110 #[v] w fun e w'=>∃v',e=.returned v'∧aMJ w w' v' es:=by
 obtain⟨i,hi,h3,h40,hz⟩:=aCN;rcases hv with⟨rfl,rfl⟩ | ⟨g,o,cap,xs,rfl,hx,hl,he⟩
 ·have hnil:=fun w=>Lib.run_eql_slice_nil (P:=Tryz.prog) w 55 77 none 0 0 0 0 Tryz.underlying55
  go_enter Tryz.func110,Tryz.ntmps110
  go_wp2
  go_ret
  exact⟨_,rfl,⟨none,[],by simp[adr],fun g q=>(by cases q),fun _=>⟨rfl,rfl⟩,by simp⟩,bQ _ _⟩
 ·have hnil:=fun w=>Lib.run_eql_slice_nil (P:=Tryz.prog) w 55 77 (some ⟨g,o*2,none⟩) es.length cap 0 0 Tryz.underlying55
  have hx1:IsC (w.alloc (.cells #[] 77)) g (cO xs) 77:=hx.alloc _;have hsrc:=Src.ofSlice (P:=Tryz.prog) (w.alloc (.cells #[] 77)) (size:=i.size) (tx:=55) Tryz.underlying55 ⟨g,o*2,none⟩ es.length cap (es.flatMap aS) (by rw[bL,h3]) (Tsl.cells hx1 hl he) (lM es);have hB:=(bQ w.heap.size w).alloc (nR _) (.cells #[] 77);by_cases h0:es.length=0
  ·have ee0:es=[]:=List.length_eq_zero_iff.1 h0
   subst ee0;have hnil0:=fun w=>Lib.run_eql_slice_nil (P:=Tryz.prog) w 55 77 (some ⟨g,o*2,none⟩) 0 cap 0 0 Tryz.underlying55;have hr:=fun ty=>run_append_room_src (P:=Tryz.prog) (w.alloc (.cells #[] 77)) 55 55 ty 77 i Tryz.underlying55 hi w.heap.size 0 0 0 _ 0 [] hsrc (by omega) (fun j hj=>by simp at hj) (fun j hj=>by simp at hj);go_enter Tryz.func110,Tryz.ntmps110;go_wp2_with (at_builtin;refine cF rfl _ _ _ _ rfl (.slice (some ⟨w.heap.size,0,none⟩) 0 0) (.slice (some ⟨g,o*2,none⟩) 0 cap) rfl rfl _ _ (hr _) ?_);go_ret;exact⟨_,rfl,⟨some w.heap.size,[],by simp[adr],fun g q=>(by cases q;exact⟨nR _,IsC.new _ _ _⟩),fun q=>(by cases q),by simp⟩,hB⟩
  ·have hfc:(Builtin.firstCells i.size 0 (.slice (some ⟨w.heap.size,0,none⟩) 0 0)).run Tryz.prog (w.alloc (.cells #[] 77)).drew=.ok ([]:List Value).toArray (w.alloc (.cells #[] 77)).drew:=by
    have:=run_firstCells_some (P:=Tryz.prog) (w.alloc (.cells #[] 77)).drew i.size 0 ⟨w.heap.size,0,none⟩ 0 0 [] (by simp) (fun j v hj=>by simp at hj)
    exact this
   have hr:=fun ty=>run_append_grow_src (P:=Tryz.prog) (w.alloc (.cells #[] 77)) 55 55 ty 77 i _ Tryz.underlying55 hi hz (some ⟨w.heap.size,0,none⟩) 0 0 [] hfc _ es.length (es.flatMap aS) hsrc (by omega) (by omega) (by rw[nextslicecap_zero (by omega),h40];omega);go_enter Tryz.func110,Tryz.ntmps110;go_wp2_with (at_builtin;refine cF rfl _ _ _ _ rfl (.slice (some ⟨w.heap.size,0,none⟩) 0 0) (.slice (some ⟨g,o*2,none⟩) es.length cap) rfl rfl _ _ (hr _) ?_);go_ret;have hge:=grownCap_ge (w.alloc (.cells #[] 77)) es.length 0 77;have hle:=grownCap_le_maxLen (w.alloc (.cells #[] 77)) es.length 0 77 (by simp[maxLen];omega);generalize grownCap (w.alloc (.cells #[] 77)) es.length 0 77=gc at *;refine⟨_,rfl,⟨some (w.heap.size+1),List.replicate (gc-es.length) t0,?_,fun g q=>?_,fun q=>(by cases q),?_⟩,?_⟩
   ·simp[adr];omega
   ·cases q
    refine⟨by omega,?_⟩;have:=IsC.new (w.alloc (.cells #[] 77)) ((es.flatMap aS).toArray++Builtin.zeroCells #[.int .i64 0,.int .i64 0] (gc-es.length)) 77;rw[World.size_alloc]at this;rw[aGY]at this ⊢;simpa [cO] using this.drew
   ·simp;omega
   ·exact(hB.alloc (by simp) _).drew
variable {w w1 : World} {ρ : Nat → Nat} {P : Nat} {A : Adr} {f : fZ} {J : List aR}
def oF(ρ:Nat→Nat)(g:Nat):Nat→Nat:=fun x=>if x=g then 2 else ρ x
theorem St.setRoots(h:St w ρ P A f J){g:Nat}{rs rj:List (Int×Int)}(hF:Frm (fun x=>x=A.ra) w w1)(hg:IsC w1 g (cO (rs++rj)) 77)(hgr:g=A.ra∨ρ g=0)(hsm:rs.length+rj.length≤maxLen):
  St (w1.setCell ⟨P,0,none⟩ (.slice (some ⟨g,0,none⟩) rs.length (rs.length+rj.length))) (oF ρ g) P {A with ra:=g,rj:=rj} {f with roots:=rs} J∧Mv (fun x=>x=g∧ρ x=0) w ρ (w1.setCell ⟨P,0,none⟩ (.slice (some ⟨g,0,none⟩) rs.length (rs.length+rj.length))) (oF ρ g):=by
 have hrr:ρ A.ra=2∧ρ P=1:=by obtain⟨_,_,_,h1,_⟩:=h;exact⟨h1.rr,h1.rP⟩
 have hown:∀x,ρ x≠0→x<w.heap.size:=by obtain⟨_,_,_,h1,_⟩:=h;exact h1.own
 have hg2:ρ g=2∨ρ g=0:=by
  rcases hgr with e | e
  ·left;rw[e];exact hrr.1
  ·exact .inr e
 have hgP:g≠P:=fun e=>by rw[e,hrr.2]at hg2;omega
 have k:Frm (fun x=>x=A.ra∨x=P) w (w1.setCell ⟨P,0,none⟩ (.slice (some ⟨g,0,none⟩) rs.length (rs.length+rj.length))):=(hF.wide fun x _ e=>.inl e).trans (Frm.set w1 (p:=⟨P,0,none⟩) (.inr rfl) _);have hro:∀x,ρ x≠0→oF ρ g x=ρ x:=fun x hx=>by
  unfold oF;split
  ·rename_i e;rw[e]at hx ⊢;omega
  ·rfl
 have hrg:oF ρ g g=2:=by simp[oF]
 have hne:∀{x r},ρ x=r→r≠2→r≠1→¬(x=A.ra∨x=P):=fun {x r} e h1 h2 q=>by
  rcases q with q | q
  ·rw[q,hrr.1]at e;exact h1 e.symm
  ·rw[q,hrr.2]at e;exact h2 e.symm
 refine⟨h.of k (fun x e=>?_) (fun x _ hx=>hro x fun e=>by rw[e]at hx;exact aDE hx) fun jv hR=>?_,k.wide (fun x _ e=>?_),fun x _ hx=>?_⟩
 ·rcases e with e | e
  ·rw[e,hrr.1];exact aCI.2
  ·rw[e,hrr.2];exact vI.2
 ·have hK:Kp (fun x=>x=A.ra∨x=P) w ρ (w1.setCell ⟨P,0,none⟩ (.slice (some ⟨g,0,none⟩) rs.length (rs.length+rj.length))) (oF ρ g):=⟨k,fun x _ hx=>hro x hx.1,fun x hx=>by
   by_cases e:x=g
   ·rw[e];have:=hg.lt;simpa using this
   ·have:ρ x≠0:=by unfold oF at hx;rw[if_neg e]at hx;exact hx
    exact lL (hown x this) k.size⟩
  have hP1:IsC w1 P (dC A f jv) 71:=hR.hP.frm hF (fun e=>by have:=hrr.1;rw[←e,hrr.2]at this;omega);refine hR.gen (A':={A with ra:=g,rj:=rj}) (f':={f with roots:=rs}) hK (.inr ?_) (.inr ⟨hg.set_ne _ hgP,hrg⟩) (.inl ⟨hne hR.rm (by omega) (by omega),rfl⟩) rfl (.inl ⟨hne hR.rc (by omega) (by omega),rfl⟩) rfl (.inl ⟨hne hR.rd (by omega) (by omega),rfl,rfl⟩) (fun x d hx=>.inl ⟨hx,rfl,rfl,fun y hy=>?_⟩) hR.no hsm hR.ds
  ·have:=hP1.set 0 (.slice (some ⟨g,0,none⟩) rs.length (rs.length+rj.length))
   simpa [dC] using this
  ·rcases hy with e | e
   ·exact hne e (by unfold cE;omega) (by unfold cE;omega)
   ·exact hne e (by unfold cC;omega) (by unfold cC;omega)
 ·left
  rcases e with e | e
  ·rw[e,hrr.1];omega
  ·rw[e,hrr.2];omega
 ·unfold oF
  split
  ·rename_i e
   rcases hg2 with q | q
   ·rw[e,q]
   ·exact absurd ⟨e,by rw[e];exact q⟩ hx
  ·rfl
theorem St.setNum(h:St w ρ P A f J){i:Nat}{v:Int}{f':fZ}(hn:f'.roots=f.roots∧f'.cur=f.cur∧f'.com=f.com∧f'.nodes=f.nodes)(hc:∀jv,(dC A f jv).setIfInBounds i (.int .i64 v)=dC A f' jv):
  St (w.setCell ⟨P,i,none⟩ (.int .i64 v)) ρ P A f' J∧Mv (fun _=>False) w ρ (w.setCell ⟨P,i,none⟩ (.int .i64 v)) ρ:=by
 have hrP:ρ P=1:=by obtain⟨_,_,_,h1,_⟩:=h;exact h1.rP
 have k:Frm (fun x=>x=P) w (w.setCell ⟨P,i,none⟩ (.int .i64 v)):=Frm.set (S:=fun x=>x=P) w (p:=⟨P,i,none⟩) rfl _;refine⟨h.of k (fun x e=>by rw[e,hrP];exact vI.2) (fun _ _ _=>rfl) fun jv hR=>?_,k.wide (fun x _ e=>.inl (by rw[e,hrP];omega)),fun _ _ _=>rfl⟩;have no:∀{x r},ρ x=r→r≠1→¬x=P:=fun {x r} e hr q=>hr (by rw[←e,q,hrP]);obtain⟨n1,n2,n3,n4⟩:=hn;refine hR.gen (f':=f') (Kp.same hR k) (.inr ?_) (.inl ⟨no hR.rr (by omega),rfl,by rw[n1]⟩) (.inl ⟨no hR.rm (by omega),rfl⟩) rfl (.inl ⟨no hR.rc (by omega),n2⟩) rfl (.inl ⟨no hR.rd (by omega),rfl,by rw[n3]⟩) (fun x d hx=>.inl ⟨by rw[←n4];exact hx,rfl,rfl,fun y hy=>?_⟩) (fun b hb=>hR.no b (by rw[←n4];exact hb)) (by rw[n1];exact hR.rs) (by rw[n3];exact hR.ds)
 ·have:=hR.hP.set i (.int .i64 v)
  rw[hc]at this;exact this
 ·rcases hy with e | e
  ·exact no e (by unfold cE;omega)
  ·exact no e (by unfold cC;omega)
theorem aFU(W:World)(x y:Int):(Instr.build 77 #[(0,.int .i64 x),(1,.int .i64 y)]).run Tryz.prog W=.ok (.agg #[.int .i64 x,.int .i64 y]) W:=by kernel_rfl
theorem aKY(W:World)(x y:Int):(Instr.buildSlice 55 1 #[(0,.agg #[.int .i64 x,.int .i64 y])]).run Tryz.prog W=.ok (.slice (some ⟨W.heap.size,0,none⟩) 1 1) (W.alloc (.cells #[.int .i64 x,.int .i64 y] 77)):=by kernel_rfl
theorem aEM{W:World}{g:Nat}{rs rj:List (Int×Int)}(x y:Int)(G:Nat)(hg:IsC W g (cO (rs++rj)) 77)(hG:IsC W G (cO [(x,y)]) 77)(hl:rs.length≤100)(hm:rs.length+rj.length≤maxLen):
  ∃W' g' rj',(∀ty,(Builtin.append_ #[55,55] ty #[.slice (some ⟨g,0,none⟩) rs.length (rs.length+rj.length),.slice (some ⟨G,0,none⟩) 1 1]).run Tryz.prog W=.ok (.slice (some ⟨g',0,none⟩) (rs++[(x,y)]).length ((rs++[(x,y)]).length+rj'.length)) W')∧IsC W' g' (cO (rs++[(x,y)]++rj')) 77∧(g'=g∨W.heap.size≤g')∧(rs++[(x,y)]).length+rj'.length≤maxLen∧Frm (fun k=>k=g) W W':=by
 obtain⟨u,W',a',rj',h1,rfl,h3,h4,h5,h6⟩:=aFZ (some g) rs rj [(x,y)] (.slice (some ⟨G,0,none⟩) 1 1) W (fun g' e=>by cases e;exact hg) (fun e=>by cases e) (.inr ⟨G,0,1,[(x,y)],rfl,hG,by simp,by simp⟩) (by simp;omega) hm;cases a' with
 | none=>have:=(h4 rfl).2.1;simp at this
 | some g'=>
  refine⟨W',g',rj',fun ty=>?_,(h3 g' rfl).1,?_,by simpa using h5,h6.wide fun k _ e=>by cases e;rfl⟩
  ·have:=h1 ty
   simpa [adr] using this
  ·rcases(h3 g' rfl).2 with e | e
   ·left;cases e;rfl
   ·exact .inr e
theorem aFR{K:Int}(w:World)(ρ:Nat→Nat)(P:Nat)(A:Adr)(f:fZ)(J:List aR)(t:Nat)(h:St w ρ P A f J)(hI:IC f)(hz:Sz K f)(hK:K≤900000)(ht:t<f.roots.length)(h16:f.roots.length<16)(hn:0≤f.next∧f.next<65535):
  Calls Tryz.prog 103 #[.pointer (some ⟨P,0,none⟩),.int .i64 (aB f t)] w fun e w'=>e=.returned (.int .i64 f.next)∧∃ρ' A',St w' ρ' P A' (cS f t) J∧Mv (fun _=>False) w ρ w' ρ':=by
 have h0:0≤(f.roots.getD t (0,0)).2:=(hI.rb _ (aP ht)).1;obtain⟨d,hd⟩:=hI.root_live (aP ht);have hbl:aB f t<f.cur.length:=hz.lt _ _ hd;have hbi:((aB f t:Nat):Int) <(f.cur.length:Int):=by omega
 have hrt:(f.roots.getD t (0,0)).2=((aB f t:Nat):Int):=by unfold aB;omega
 obtain⟨ja,jp,jj,hR,hJ⟩:=id h;have hwn:IntKind.i64.wrap (f.next+1)=f.next+1:=IntWalk.i64_in _ ⟨by omega,by omega⟩;have hcb:=hz.cb (aB f t);have hwc:IntKind.i64.wrap (cu f (aB f t)+1)=cu f (aB f t)+1:=IntWalk.i64_in _ ⟨by omega,by omega⟩;have c1:w.cell? ⟨P,1,none⟩=some (.int .i64 f.next):=by rw[hR.hP.cell];rfl
 have z1:=hR.hP.frozen 1;obtain⟨hS1,hM1⟩:=h.setNum (i:=1) (v:=f.next+1) (f':={f with next:=f.next+1}) ⟨rfl,rfl,rfl,rfl⟩ (fun jv=>by simp[dC]);obtain⟨w1,Hw1⟩:=exH (w.setCell ⟨P,1,none⟩ (.int .i64 (f.next+1)));rw[←Hw1.out]at hS1 hM1;obtain⟨ja1,jp1,jj1,hR1,hJ1⟩:=id hS1;obtain⟨W2,HW2⟩:=exH (w1.alloc (.cells #[.int .i64 f.next,.int .i64 (aB f t)] 77));obtain⟨G,HG⟩:=exH (w1.heap.size);have hB2:Bl w1 W2:=by rw[HW2.out];exact(bQ w1.heap.size w1).alloc (nR _) _
 have hNG:IsC W2 G (cO [(f.next,((aB f t:Nat):Int))]) 77:=by rw[HW2.out,HG.out];exact IsC.new _ _ _
 have hS2:=hS1.below hB2;obtain⟨ja2,jp2,jj2,hR2,hJ2⟩:=id hS2;have hr2:IsC W2 A.ra (cO (f.roots++A.rj)) 77:=hR2.hr;obtain⟨W3,g3,rj3,hap,hg3,hg3r,hsm3,hF3⟩:=aEM f.next ((aB f t:Nat):Int) G hr2 hNG (by omega) hR.rs;have hg3':g3=A.ra∨ρ g3=0:=by
  rcases hg3r with e | e
  ·exact .inl e
  ·right;exact Nat.eq_zero_of_not_pos fun q=>absurd (hR2.own g3 (by omega)) (by omega)
 obtain⟨hS4,hM4⟩:=hS2.setRoots hF3 hg3 hg3' hsm3;have r2:W2.cell? ⟨P,0,none⟩=some (.slice (some ⟨A.ra,0,none⟩) f.roots.length (f.roots.length+A.rj.length)):=by rw[hR2.hP.cell];rfl
 have r1:w1.cell? ⟨P,0,none⟩=some (.slice (some ⟨A.ra,0,none⟩) f.roots.length (f.roots.length+A.rj.length)):=by rw[hR1.hP.cell];rfl
 have hP3:IsC W3 P _ _:=hR2.hP.frm hF3 (fun e=>by have:=hR2.rr;have e2:=hR2.rP;rw[e]at e2;have e3:ρ A.ra=2:=this;omega);have r3:W3.cell? ⟨P,0,none⟩=some (.slice (some ⟨A.ra,0,none⟩) f.roots.length (f.roots.length+A.rj.length)):=hP3.c rfl;have z3:=hP3.frozen 0;obtain⟨W4,HW4⟩:=exH (W3.setCell ⟨P,0,none⟩ (.slice (some ⟨g3,0,none⟩) (f.roots++[(f.next,((aB f t:Nat):Int))]).length ((f.roots++[(f.next,((aB f t:Nat):Int))]).length+rj3.length)));rw[←HW4.out]at hS4 hM4;obtain⟨ja4,jp4,jj4,hR4,hJ4⟩:=id hS4;have m4:W4.cell? ⟨P,4,none⟩=some (.slice (some ⟨A.c,0,none⟩) f.cur.length f.cur.length):=by rw[hR4.hP.cell];rfl
 have hcc:W4.cell? ⟨A.c,aB f t,none⟩=some (.int .i64 (cu f (aB f t))):=hR4.count hbl;have z4:W4.frozen? ⟨A.c,aB f t,none⟩=false:=hR4.hc.frozen _;obtain⟨hS5,hM5⟩:=hS4.setC (b:=aB f t) hbl (cu f (aB f t)+1);have hfin:setC {{f with next:=f.next+1} with roots:=f.roots++[(f.next,((aB f t:Nat):Int))]} (aB f t) (cu f (aB f t)+1)=cS f t:=by
  unfold cS setC;rw[hrt]
 have hMf:Mv (fun _=>False) w ρ (W4.setCell ⟨A.c,aB f t,none⟩ (.int .i64 (cu f (aB f t)+1))) (oF ρ g3):=by
  refine((((hM1.trans (Mv.of_below hB2) (fun _ _ e=>e)).up (Y:=fun x=>x=g3∧ρ x=0) (fun _ _ e=>e.elim)).trans hM4 (fun _ _ e=>e)).trans hM5 (fun _ _ e=>e.elim)).up fun x hx e=>?_;obtain⟨e1,e2⟩:=e;rcases hg3r with q | q
  ·rw[e1,q,hR.rr]at e2;omega
  ·have:=hM1.frm.size;have:=hB2.size;omega
 have hbd:=aFU;have hbs:=aKY;have HX:=aA (aI hS5 hMf);have HH:=aA (aI hfin hap);have hap':=hap;generalize hqc:cu f (aB f t)=qc at *;generalize hqb:aB f t=qb at *;have e1:=Hw1.out.symm;have e2:=HW2.out.symm;have e3:=HG.out.symm;have e4:=HW4.out.symm;simp only[lP,List.length_cons,List.length_nil,Nat.zero_add]at e4;clear hS5 hMf hfin hS4 hM4 hS2 hS1 hM1 hM5 hap Hw1 HW2 HG HW4;go_enter Tryz.func103,Tryz.ntmps103;go_wp2_with (at_builtin;refine cF rfl _ _ _ _ rfl (.slice (some ⟨A.ra,0,none⟩) f.roots.length (f.roots.length+A.rj.length)) (.slice (some ⟨G,0,none⟩) 1 1) rfl rfl _ _ (hap' _) ?_);go_ret;obtain⟨hS5,hMf⟩:=HX.out;rw[HH.out.1]at hS5;exact⟨rfl,_,⟨_,hS5⟩,hMf⟩
end Go.Proofs.YtaahkgkdpnnhhaaGreat
namespace Go.Proofs.YtaahkgkdpnnhhaaGreat
open Go.RowKit Go.Shelf Fo
attribute [local go_sem] Oper.semAt_some
theorem UC.pos{h:Nat}{f:fZ}{b:Nat}(u:UC h f b)(x:Nat):0≤cu f x:=by
 obtain⟨g,S,ht,E,ab,ip,-⟩:=u;rw[nS ab];exact ip.dom.pos x
theorem Sz.uk{K:Int}{f g:fZ}(h:Sz K f)(u:UK f g)(hp:∀x,0≤cu g x):Sz K g:=by
 have hn:∀b d,g.nodes b=some d→f.nodes b=some d:=fun b d hb=>by
  rcases u.nodes b with q | q
  ·rw[q]at hb;exact hb
  ·rw[q]at hb;cases hb
 exact⟨by rw[u.len];exact h.n512,by rw[u.len];exact h.n8,by rw[u.len,u.com];exact h.com,fun b d hb=>h.ent b d (hn b d hb),fun b d hb=>by rw[u.len];exact h.lt b d (hn b d hb),fun i=>⟨hp i,Int.le_trans (u.cu i) (h.cb i).2⟩,fun i=>by unfold co;rw[u.com];exact h.mb i⟩
theorem Frm.own{S:Nat→Prop}{w0 w w':World}{row:Option Nat}(h:Frm S w0 w)(hg:w.grownBy w' row)(hr:∀r,row=some r→w0.heap.size≤r):Frm S w0 w':=
 ⟨hg.os.trans h.os,hg.tape.trans h.tape,hg.output.trans h.output,lT h.size hg.size,fun k hk hn=>(hg.block k (lL hk h.size) fun e=>by have:=hr k e.symm;omega).trans (h.block k hk hn)⟩
structure UnP(w:World)(ρ:Nat→Nat)(P:Nat)(A:Adr)(J:List aR)(r:fZ×Int)(e:Ending)(w':World):Prop where
 e:e=.returned (.int .i64 r.2)
 ex:∃φ',St w' ρ P {A with φ:=φ'} r.1 J
 frm:Frm (fun k=>k=A.c∨k=A.m) w w'
theorem vR{K:Int}(F:Fence)(n:Nat)(hW:∀{f:FuncId} {args:Array Value} {w:World} {R:Ending→World→Prop} {m:Nat},Calls Tryz.prog f args w R→CallsIn F m Tryz.prog f args w R)(hfn:∀k,F.fn k)(hro:F.round=none)(hn:5≤n)
  (h:Nat) (w:World) (ρ:Nat→Nat) (P:Nat) (A:Adr) (f:fZ) (J:List aR) (b:Nat) (hS:St w ρ P A f J) (hz:Sz K f) (hK:K≤900000) (hu:UC h f b) (r:List Nat→fZ×Int) (d:Nd) (hd:f.nodes b=some d) (hr0:r []=(dec f b,1))
  (hrb:¬0<cu f b-1→∀(pre post:List Nat),kids d=pre++post→1≤(r pre).2∧(r pre).2≤600)
  (IH:¬0<cu f b-1→∀(pre:List Nat) (x:Nat) (post:List Nat),kids d=pre++x :: post→∀(W:World) (φ1:Nat→Option Nat),St W ρ P {A with φ:=φ1} (r pre).1 J→Calls Tryz.prog 127 #[.pointer (some ⟨P,0,none⟩),.int .i64 (x:Int)] W (UnP W ρ P {A with φ:=φ1} J ((r (pre++[x])).1,(r (pre++[x])).2 -(r pre).2))):
  CallsIn F n Tryz.prog 127 #[.pointer (some ⟨P,0,none⟩),.int .i64 b] w (UnP w ρ P A J (if 0<cu f b-1 then(dec f b,0)else(delN (r (kids d)).1 b,(r (kids d)).2))):=by
 have hn1:1≤n:=by omega
 obtain⟨d',hd',hbl,hc1,hok,-⟩:=hu.live;rw[hd]at hd';cases hd';have hbi:(b:Int) <(f.cur.length:Int):=by omega
 have h10:d.2.length≤10:=hz.ent b d hd;obtain⟨ja,jp,jj,hR,hJ⟩:=id hS;obtain⟨m3,m4,m5,m7⟩:=hR.cells;have hcc:=hR.count hbl;have hPl:=hR.hP.lt;have hcl:=hR.hc.lt;have hml:=hR.hm.lt;have hcb:=hz.cb b;have hwr:IntKind.i64.wrap (cu f b-1)=cu f b-1:=IntWalk.i64_in _ ⟨by omega,by omega⟩;refine callsIn_of_wp_marks Tryz.func127 rfl (hfn _) ?_ hro;simp only[Tryz.ntmps127,List.size_toArray,List.length_cons,List.length_nil,Nat.reduceAdd,Nat.reduceSub,Array.replicate_succ,Array.replicate_zero,List.push_toArray,List.append_toArray,List.nil_append,List.cons_append];have hB1:Bl w (w.alloc (.cells #[.pointer (some ⟨P,0,none⟩)] 65)):=(bQ _ w).alloc (nR _) _;have hS1:=hS.below hB1;have hR1:=Boxed.new w 65 (.pointer (some ⟨P,0,none⟩));have hs1:(w.alloc (.cells #[.pointer (some ⟨P,0,none⟩)] 65)).heap.size=w.heap.size+1:=by simp
 have k1:=hR1.cell;have hne:w.heap.size≠A.c:=by omega
 obtain⟨w1,hw1⟩:=eZ (w.alloc (.cells #[.pointer (some ⟨P,0,none⟩)] 65));rw[hw1]at hB1 hS1 hR1 hs1 k1;obtain⟨ja1,jp1,jj1,hRr1,hJ1⟩:=id hS1;obtain⟨n3,n4,n5,n7⟩:=hRr1.cells;have hcc1:=hRr1.count hbl;have hfz1:w1.frozen? ⟨A.c,b,none⟩=false:=hRr1.hc.frozen b;obtain⟨hS2,hV2⟩:=hS1.setC (b:=b) hbl (cu f b-1);have hbx2:Boxed (w1.setCell ⟨A.c,b,none⟩ (.int .i64 (cu f b-1))) w.heap.size 65 (.pointer (some ⟨P,0,none⟩)):=(bB _ _ hne).trans hR1;have k2:=hbx2.cell;obtain⟨w2,hw2⟩:=eZ (w1.setCell ⟨A.c,b,none⟩ (.int .i64 (cu f b-1)));have hF2:Frm (fun k=>k=A.c∨k=A.m) w w2:=by
  rw[←hw2];exact(Frm.of_below hB1).trans (Frm.set w1 (p:=⟨A.c,b,none⟩) (.inl rfl) _)
 have hs2:w2.heap.size=w.heap.size+1:=by rw[←hw2,←hs1];exact dJ (g:=A.c) [_] w1 b
 rw[hw2]at hS2 hV2 hbx2 k2;obtain⟨ja2,jp2,jj2,hRr2,hJ2⟩:=id hS2;obtain⟨o3,o4,o5,o7⟩:=hRr2.cells;have o4':w2.cell? ⟨P,4,none⟩=some (.slice (some ⟨A.c,0,none⟩) f.cur.length f.cur.length):=by
  rw[o4];simp[Fo.setC]
 have hcc2:w2.cell? ⟨A.c,b,none⟩=some (.int .i64 (cu f b-1)):=by
  rw[hRr2.hc.cell];simp[cY,Fo.setC,hbl]
 clear o4 o5 o7 n5 n7 m3 m4 m5 m7;by_cases hc:0<cu f b-1
 ·rw[if_pos hc]
  have hcg:(0:Int)<cu f b-1:=hc;gi_wp2;exact⟨.int .i64 0,by simp[results,Tryz.f127,go_sem],⟨rfl,⟨A.φ,hS2⟩,hF2⟩⟩
 ·rw[if_neg hc]
  have hcg:¬(0:Int)<cu f b-1:=hc;obtain⟨q,hφ,hρq,hρa,junk,hN⟩:=hRr2.nd b d hd;have hlk:=hRr2.hm.lookup b (by have:=hz.n512;omega);rw[hφ]at hlk;simp only[eY,Option.map_some]at hlk;obtain⟨w3,hw3⟩:=eZ (w2.alloc (.cells #[.int .i64 1] 2));obtain⟨D1,hD1⟩:=eZ (w2.heap.size);have hB3:=bAl hw3;have hs3:w3.heap.size=D1+1:=by rw[←hw3,←hD1];simp
  have hdx3:Boxed w3 D1 2 (.int .i64 1):=by rw[←hw3,←hD1];exact Boxed.new _ _ _
  have hbx3:Boxed w3 w.heap.size 65 (.pointer (some ⟨P,0,none⟩)):=(hB3.block _ (by omega)).trans hbx2;have hS3:=hS2.below hB3;have hN3:=hN.below hB3;obtain⟨ja3,jp3,jj3,hRr3,hJ3⟩:=id hS3;have p3:=hRr3.cells.m3;have k3:=hbx3.cell;have hlk3:(Instr.lookup 68 (.map (some A.m)) (.int .i64 b) false).run Tryz.prog w3=.ok (.pointer (some ⟨q,0,none⟩)) w3:=by
   have:=hRr3.hm.lookup b (by have:=hz.n512;omega)
   rw[hφ]at this;simpa only[eY,Option.map_some] using this
  have hj3:w3.cell? ⟨D1,0,none⟩=some (.int .i64 1):=hdx3.cell;have HSZ:=aA (aI hs1 (aI hs2 hs3));clear hlk hs1 hs2 hs3;gi_wp2_with (gi_at_call 59;refine(pW F (n-1) (hfn _) hro _ _).mono ?_;rintro e w' ⟨rfl,rfl⟩);obtain⟨hs1,hs2,hw3n⟩:=HSZ.out;clear HSZ;have hB4:Bl w3 (w3.alloc (.cells #[.pointer (some ⟨q,0,none⟩)] 112)):=(bQ _ w3).alloc (nR _) _;have hbn4:IsC (w3.alloc (.cells #[.pointer (some ⟨q,0,none⟩)] 112)) w3.heap.size #[.pointer (some ⟨q,0,none⟩)] 112:=IsC.new _ _ _;have hsz4:(w3.alloc (.cells #[.pointer (some ⟨q,0,none⟩)] 112)).heap.size=w3.heap.size+1:=by simp
  generalize hW4:w3.alloc (.cells #[.pointer (some ⟨q,0,none⟩)] 112)=w4 at *;have hS4:=hS3.below hB4;have hN4:=hN3.below hB4;have hbx4:Boxed w4 w.heap.size 65 (.pointer (some ⟨P,0,none⟩)):=(hB4.block _ (by omega)).trans hbx3;have hdx4:Boxed w4 D1 2 (.int .i64 1):=(hB4.block _ (by omega)).trans hdx3;have hql:q<w4.heap.size:=hN4.box.lt;have hnn:d.1=2→∀e∈d.2,0≤e.2.2:=fun h2 e he=>by
   rcases hok with q | ⟨_,_,q⟩
   ·omega
   ·exact(q e he).1
  have hF4:Frm (fun k=>k=A.c∨k=A.m) w w4:=(hF2.trans (Frm.of_below hB3)).trans (Frm.of_below hB4);have hD1w:w.heap.size<D1:=by omega
  have hcA:A.c<w.heap.size:=hcl;have hmA:A.m<w.heap.size:=hml;have hqw:q≠A.c∧q≠A.m∧q≠D1∧∀g,A.α b=some g→g≠A.c∧g≠A.m∧g≠D1:=by
   have z1:=hRr3.rc;have z2:=hRr3.rm;have z3:ρ D1=0:=Nat.eq_zero_of_not_pos fun q=>absurd (hRr2.own D1 (by omega)) (by omega);refine⟨fun e=>?_,fun e=>?_,fun e=>?_,fun g hg=>⟨fun e=>?_,fun e=>?_,fun e=>?_⟩⟩
   ·rw[←e,hρq]at z1;unfold cE at z1;omega
   ·rw[←e,hρq]at z2;unfold cE at z2;omega
   ·rw[←e,hρq]at z3;unfold cE at z3;omega
   ·rw[←e,hρa g hg]at z1;unfold cC at z1;omega
   ·rw[←e,hρa g hg]at z2;unfold cC at z2;omega
   ·rw[←e,hρa g hg]at z3;unfold cC at z3;omega
  have hρD:ρ D1=0:=Nat.eq_zero_of_not_pos fun q=>absurd (hRr2.own D1 (by omega)) (by omega);have hS4':St w4 ρ P {A with φ:=A.φ} (r []).1 J:=by rw[hr0];exact hS4
  have hr02:(r []).2=1:=by rw[hr0]
  clear hS3 hS2 hS1 hRr3 hRr2 hRr1 hJ3 hJ2 hJ1 hN3 hN hbx3 hdx3 k3 hj3 p3 hlk3 k2 k1 o3 o4' hcc2 hcc1 hfz1 n3 n4 hS4 hV2 hB1 hR1 hw1 hw2 hw3;refine mC hro hn1 (gf:=82) (lb:=#[.pointer (some ⟨w3.heap.size,0,none⟩)]) rfl (hfn _) (enters_of Tryz.func82 (by kernel_rfl) rfl)
   (nE F (n-1) (hfn _) hro (by omega) w3.heap.size q d (A.α b) junk h10 hnn w4 hbn4 hN4) KpC.trans (KpC.put hbn4.lt hql (fun g e=>(hN4.arr g e).1.lt)) (bQ _ _) rfl
   (fun pre W=>(∃φ1,St W ρ P {A with φ:=φ1} (r pre).1 J)∧Frm (fun k=>k=A.c∨k=A.m∨k=D1) w4 W∧Boxed W w.heap.size 65 (.pointer (some ⟨P,0,none⟩))∧Boxed W D1 2 (.int .i64 (r pre).2))
   ?_ ⟨⟨A.φ,hS4'⟩,Frm.refl _ _,hbx4,by rw[hr02];exact hdx4⟩ ?_ ?_
  ·refine fun pre X Y row hs hg hr'=>?_
   obtain⟨⟨φ1,h1⟩,h2,h3,h4⟩:=hs;have hnc:∀x,row=some x→w4.heap.size≤x:=fun x e=>(hr' x e).1;refine⟨⟨φ1,h1.own hg fun x e=>⟨by have:=hnc x e;show x≠A.m;omega,(hr' x e).2⟩⟩,h2.own hg hnc,h3.kept hg fun e=>?_,h4.kept hg fun e=>?_⟩
   ·have:=hnc _ e.symm;omega
   ·have:=hnc _ e.symm;omega
  ·intro l pre x W hi hpre
   gi_wp2
   refine⟨trivial,?_⟩;clear hi;rintro W ⟨⟨φ1,h1⟩,h2,h3,h4⟩;obtain⟨post,hpo⟩:=hpre;have hks:kids d=pre++x :: post:=by rw[←hpo];simp
   obtain⟨hb1,hb2⟩:=hrb hc pre (x :: post) hks;obtain⟨hb3,hb4⟩:=hrb hc (pre++[x]) post (by rw[hks];simp);have hIH:=IH hc pre x post hks;have hbc:=h3.cell;have hdc:=h4.cell;have hdf:=h4.frozen;have hwa:IntKind.i64.wrap ((r pre).2+((r (pre++[x])).2 -(r pre).2))=(r (pre++[x])).2:=by
    rw[IntWalk.i64_in _ ⟨by omega,by omega⟩];omega
   have hSd:St W.drew ρ P {A with φ:=φ1} (r pre).1 J:=h1.below (bQ W.heap.size W).drew;have HH:=aA (aI h2 (aI h3 h4));have HB:=aA (aI hb1 (aI hb2 (aI hb3 hb4)));clear h1 h2 h3 h4 hb1 hb2 hb3 hb4 hpo hks;gi_wp2;gi_region_with (refine⟨fun _=>by omega,(CallsIn.inRound l (hW (hIH _ φ1 hSd))).mono ?_⟩;rintro e W2 ⟨rfl,⟨φ2,h5⟩,h6⟩;have q4:Boxed W2 D1 2 (.int .i64 (r pre).2):=(h6.block D1 HH.out.2.2.lt (fun e=>by rcases e with e | e<;>(have e':=e;simp only at e';omega))).trans HH.out.2.2;have q5:=q4.cell;have q6:=q4.frozen)
   all_goals (
    obtain⟨h2,h3,h4⟩:=HH.out;have hblk:∀k,k<W.heap.size→k≠A.c→k≠A.m→k≠D1→(W2.setCell ⟨D1,0,none⟩ (.int .i64 (r (pre++[x])).2)).heap[k]?=W.heap[k]?:=fun k hk e1 e2 e3=>(bB W2 _ e3).trans (h6.block k hk fun e=>by rcases e with e | e;exact e1 e;exact e2 e);have hF3:Frm (fun k=>k=A.c∨k=A.m∨k=D1) w4 (W2.setCell ⟨D1,0,none⟩ (.int .i64 (r (pre++[x])).2)):=((h2.trans (Frm.drew _ W)).trans (h6.wide fun k _ e=>by rcases e with e | e;exact .inl e;exact .inr (.inl e))).trans (Frm.set W2 (p:=⟨D1,0,none⟩) (.inr (.inr rfl)) _);have hS3:=h5.frm (w':=W2.setCell ⟨D1,0,none⟩ (.int .i64 (r (pre++[x])).2)) (Frm.set W2 (p:=⟨D1,0,none⟩) hρD _);have hsW:w4.heap.size≤W.heap.size:=h2.size;have hb3:Boxed (W2.setCell ⟨D1,0,none⟩ (.int .i64 (r (pre++[x])).2)) w.heap.size 65 (.pointer (some ⟨P,0,none⟩)):=(hblk _ h3.lt (by omega) (by omega) (by omega)).trans h3;have hd3:=q4.set (.int .i64 (r (pre++[x])).2);have hsz:W.heap.size≤(W2.setCell ⟨D1,0,none⟩ (.int .i64 (r (pre++[x])).2)).heap.size:=lT h6.size (Nat.le_of_eq (dJ (g:=D1) [_] W2 0).symm);have hkf:KeepsFrom w4.heap.size W (W2.setCell ⟨D1,0,none⟩ (.int .i64 (r (pre++[x])).2)):=⟨hsz,fun k o hk hko _=>(hblk k (Array.getElem?_eq_some_iff.1 hko).1 (by omega) (by omega) (by omega)).trans hko⟩;have hkp:KpC w3.heap.size q (A.α b) W (W2.setCell ⟨D1,0,none⟩ (.int .i64 (r (pre++[x])).2)):=⟨hsz,hblk _ (by omega) (by omega) (by omega) (by omega),hblk q (by omega) hqw.1 hqw.2.1 hqw.2.2.1,fun g e=>hblk g (by have:=(hN4.arr g e).1.lt;omega) (hqw.2.2.2 g e).1 (hqw.2.2.2 g e).2.1 (hqw.2.2.2 g e).2.2⟩;have HF:=aA (aI hkf (aI hkp (aI hS3 (aI hF3 (aI hb3 hd3)))));clear hkf hkp hS3 hF3 hb3 hd3 hblk h5 h6 h2 h3 h4 q4 q5 q6;gi_wp2;obtain⟨hkf,hkp,hS3,hF3,hb3,hd3⟩:=HF.out;exact⟨hkf,hkp,⟨φ2,hS3⟩,hF3,hb3,hd3⟩)
  ·rintro D W hD ⟨⟨φ1,h1⟩,h2,h3,h4⟩ hK
   obtain⟨jae,jpe,jje,hRe,hJe⟩:=id h1;obtain⟨w5,hr5,hM5,hF5⟩:=hRe.hm.del b (by have:=hz.n512;omega) 0;have p3:=hRe.cells.m3;have hbc:=h3.cell;have hdm:D≠A.m:=by omega
   have hK5:w5.heap[D]?=some (.deferred (some [])):=(hF5.block D (Array.getElem?_eq_some_iff.1 hK).1 hdm).trans hK;have hd5:Boxed w5 D1 2 (.int .i64 (r (kids d)).2):=(hF5.block D1 h4.lt (by show D1≠A.m;omega)).trans h4;have hdc5:=hd5.cell;obtain⟨hS5,hV5⟩:=h1.del (b:=b) hM5 hF5;have hFf:Frm (fun k=>k=A.c∨k=A.m) w w5:=(hF4.next h2 (fun x hx e=>by rcases e with e | e | e;exact .inl e;exact .inr e;omega)).next hF5 (fun x _ e=>.inr e);have HF:=aA (aI hS5 (aI hFf hK5));clear hS5 hV5 hFf hM5 hF5 h1 h2 h3 h4 hRe hJe hK hK5 hd5;gi_wp2;obtain⟨hS5,hFf,hK5⟩:=HF.out;have hgr:w5.grownBy (w5.putObj D (.deferred none)) (some D):=grownBy_putObj' w5 D _;refine⟨by simp,.inl ⟨_,_,rfl,run_takeDeferred hK5,?_⟩⟩;refine⟨.int .i64 (r (kids d)).2,by simp[results,Tryz.f127,go_sem],⟨rfl,⟨upd φ1 b none,?_⟩,hFf.own hgr fun x e=>by cases e;have:=hF4.size;omega⟩⟩;exact hS5.own hgr fun x e=>by cases e;exact⟨hdm,_,hK5,rfl⟩
