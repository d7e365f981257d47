import Derived.Deep.RegionHeld3
import Derived.Deep.RegionLaw
import Derived.Deep.Upon
import Derived.Test.YtaahkgkdpnnhhaaGreatPl3
set_option maxHeartbeats 9999999
set_option maxRecDepth 99999
set_option linter.all false
namespace Go.Proofs.YtaahkgkdpnnhhaaGreat
open Go.RowKit Fo
def Esl(w:World)(v:Value)(es:List E3):Prop:=
 (v=.slice none 0 0∧es=[])∨∃g o cap xs,v=.slice (some ⟨g,o*3,none⟩) es.length cap∧IsC w g (bX xs) 110∧o+es.length≤xs.length∧(xs.drop o).take es.length=es
theorem Esl.cells{w:World}{g o:Nat}{xs es:List E3}(h:IsC w g (bX xs) 110)(hl:o+es.length≤xs.length)(he:(xs.drop o).take es.length=es):∀j v,(es.flatMap aJ)[j]?=some v→w.cell? ((⟨g,o*3,none⟩:Addr).add j)=some v:=fun j v hj=>by
 have hadd:(⟨g,o*3,none⟩:Addr).add j=⟨g,o*3+j,none⟩:=by unfold Addr.add;split<;>simp_all
 rw[hadd,h.cell];have e1:spl (xs.flatMap aJ) (o*3) (es.flatMap aJ)=xs.flatMap aJ:=by
  rw[gI];congr 1;unfold spl;rw[←he,List.length_take,List.length_drop,List.append_assoc];rw[show min es.length (xs.length-o)=es.length by omega];rw[←List.drop_drop,List.take_append_drop,List.take_append_drop]
 have hjl:j <(es.flatMap aJ).length:=(List.getElem?_eq_some_iff.1 hj).1;have:(bX xs)[o*3+j]?=(xs.flatMap aJ)[o*3+j]?:=by simp[bX]
 rw[this,←e1];unfold spl;have hle:((xs.flatMap aJ).take (o*3)).length=o*3:=by
  rw[List.length_take,aG];omega
 rw[List.append_assoc,List.getElem?_append_right (by omega),hle,show o*3+j-o*3=j by omega,List.getElem?_append_left hjl];exact hj
theorem aCL(m:Nat):Builtin.zeroCells #[.string .empty,.string .empty,.int .i64 0] m=((List.replicate m e0).flatMap aJ).toArray:=by
 apply Array.toList_inj.1
 simp only[Builtin.zeroCells,List.size_toArray,List.length_cons,List.length_nil,Array.toList_map,Array.toList_range];induction m with
 | zero=>rfl
 | succ m ih=>
  have hr:List.range ((m+1)*3)=List.range (m*3)++[m*3,m*3+1,m*3+2]:=by
   rw[show(m+1)*3=m*3+1+1+1 by omega,List.range_succ,List.range_succ,List.range_succ];simp
  have hp:List.replicate (m+1) e0=List.replicate m e0++[e0]:=List.replicate_succ';rw[hp,List.flatMap_append,←ih];simp only[Nat.zero_add,Nat.reduceAdd];rw[hr,List.map_append];congr 1;simp only[List.map_cons,List.map_nil,show m*3 % 3=0 by omega,show(m*3+1) % 3=1 by omega,show(m*3+2) % 3=2 by omega];rfl
theorem cF{P:Program}{w:World}{ops:Array Oper}{rest:List Oper}{o:Oper}{a:Act}{Q:Exit→Act→World→Prop}(hgd:o.guard=none)(s x:Operand)(t tn:TypeId)
  (ho:o.op=.call {callee:=.builtin .append,args:=#[s,x],argTypes:=#[t,tn]}) (vs vx:Value) (hs:a.eval s=vs) (hx:a.eval x=vx)
  (v':Value) (w':World) (hr:(Builtin.append_ #[t,tn] o.type #[vs,vx]).run P w=.ok v' w') (h:wpList P ops Q rest (a.put o.dst v') w'):wpList P ops Q (o :: rest) a w:=by
 refine wpList_plain hgd fun K hK=>?_;unfold Oper.wp execOp;simp only[ho,resolve,invoke,builtin,Sem.run_bind,Sem.run_pure,Result.andThen_ok,List.map_toArray,List.map_cons,List.map_nil,hs,hx,hr];exact hK _ _ h
structure aMH(w w':World)(v:Value)(es:List E3):Prop where
 ex:∃a junk,v=.slice (adr a) es.length (es.length+junk.length)∧(∀g,a=some g→w.heap.size≤g∧IsC w' g (bX (es++junk)) 110)∧(a=none→es=[]∧junk=[])∧es.length+junk.length≤maxLen
 below:Bl w w'
theorem oZ(v:Value)(es:List E3)(w:World)(hv:Esl w v es)(h10:es.length≤10):
  Calls Tryz.prog 152 #[v] w fun e w'=>∃v',e=.returned v'∧aMH w w' v' es:=by
 obtain⟨i,hi,h3,h40,hz⟩:=pV;rcases hv with⟨rfl,rfl⟩ | ⟨g,o,cap,xs,rfl,hx,hl,he⟩
 ·have hnil:=fun w=>Lib.run_eql_slice_nil (P:=Tryz.prog) w 106 110 none 0 0 0 0 Tryz.underlying106
  go_enter Tryz.func152,Tryz.ntmps152
  go_wp2
  go_ret
  exact⟨_,rfl,⟨none,[],by simp[adr],fun g q=>(by cases q),fun _=>⟨rfl,rfl⟩,by simp⟩,bQ _ _⟩
 ·have hnil:=fun w=>Lib.run_eql_slice_nil (P:=Tryz.prog) w 106 110 (some ⟨g,o*3,none⟩) es.length cap 0 0 Tryz.underlying106
  have hx1:IsC (w.alloc (.cells #[] 110)) g (bX xs) 110:=hx.alloc _;have hsrc:=Src.ofSlice (P:=Tryz.prog) (w.alloc (.cells #[] 110)) (size:=i.size) (tx:=106) Tryz.underlying106 ⟨g,o*3,none⟩ es.length cap (es.flatMap aJ) (by rw[aG,h3]) (Esl.cells hx1 hl he) (eL es);have hB:=(bQ w.heap.size w).alloc (nR _) (.cells #[] 110);by_cases h0:es.length=0
  ·have e0:es=[]:=List.length_eq_zero_iff.1 h0
   subst e0;have hnil0:=fun w=>Lib.run_eql_slice_nil (P:=Tryz.prog) w 106 110 (some ⟨g,o*3,none⟩) 0 cap 0 0 Tryz.underlying106;have hr:=fun ty=>run_append_room_src (P:=Tryz.prog) (w.alloc (.cells #[] 110)) 106 106 ty 110 i Tryz.underlying106 hi w.heap.size 0 0 0 _ 0 [] hsrc (by omega) (fun j hj=>by simp at hj) (fun j hj=>by simp at hj);go_enter Tryz.func152,Tryz.ntmps152;go_wp2_with (at_builtin;refine cF rfl _ _ _ _ rfl (.slice (some ⟨w.heap.size,0,none⟩) 0 0) (.slice (some ⟨g,o*3,none⟩) 0 cap) rfl rfl _ _ (hr _) ?_);go_ret;exact⟨_,rfl,⟨some w.heap.size,[],by simp[adr],fun g q=>(by cases q;exact⟨nR _,IsC.new _ _ _⟩),fun q=>(by cases q),by simp⟩,hB⟩
  ·have hfc:(Builtin.firstCells i.size 0 (.slice (some ⟨w.heap.size,0,none⟩) 0 0)).run Tryz.prog (w.alloc (.cells #[] 110)).drew=.ok ([]:List Value).toArray (w.alloc (.cells #[] 110)).drew:=by
    have:=run_firstCells_some (P:=Tryz.prog) (w.alloc (.cells #[] 110)).drew i.size 0 ⟨w.heap.size,0,none⟩ 0 0 [] (by simp) (fun j v hj=>by simp at hj)
    exact this
   have hr:=fun ty=>run_append_grow_src (P:=Tryz.prog) (w.alloc (.cells #[] 110)) 106 106 ty 110 i _ Tryz.underlying106 hi hz (some ⟨w.heap.size,0,none⟩) 0 0 [] hfc _ es.length (es.flatMap aJ) hsrc (by omega) (by omega) (by rw[nextslicecap_zero (by omega),h40];omega);go_enter Tryz.func152,Tryz.ntmps152;go_wp2_with (at_builtin;refine cF rfl _ _ _ _ rfl (.slice (some ⟨w.heap.size,0,none⟩) 0 0) (.slice (some ⟨g,o*3,none⟩) es.length cap) rfl rfl _ _ (hr _) ?_);go_ret;have hge:=grownCap_ge (w.alloc (.cells #[] 110)) es.length 0 110;have hle:=grownCap_le_maxLen (w.alloc (.cells #[] 110)) es.length 0 110 (by simp[maxLen];omega);generalize grownCap (w.alloc (.cells #[] 110)) es.length 0 110=gc at *;refine⟨_,rfl,⟨some (w.heap.size+1),List.replicate (gc-es.length) e0,?_,fun g q=>?_,fun q=>(by cases q),?_⟩,?_⟩
   ·simp[adr];omega
   ·cases q
    refine⟨by omega,?_⟩;have:=IsC.new (w.alloc (.cells #[] 110)) ((es.flatMap aJ).toArray++Builtin.zeroCells #[.string .empty,.string .empty,.int .i64 0] (gc-es.length)) 110;rw[World.size_alloc]at this;rw[aCL]at this ⊢;simpa [bX] using this.drew
   ·simp;omega
   ·exact(hB.alloc (by simp) _).drew
theorem wS{P:Program}{w:World}{ops:Array Oper}{o:Oper}{a:Act}{K:Act→World→Prop}{Q:Exit→Act→World→Prop}{E:Prop}(hgd:o.guard=none)(s x:Operand)(t tn:TypeId)
  (ho:o.op=.call {callee:=.builtin .append,args:=#[s,x],argTypes:=#[t,tn]}) (vs vx:Value) (hs:a.eval s=vs) (hx:a.eval x=vx)
  (v':Value) (w':World) (hr:(Builtin.append_ #[t,tn] o.type #[vs,vx]).run P w=.ok v' w') (h:K (a.put o.dst v') w'):if Region.wanted o (yielded ops a.tmps)=true then Oper.wp P o a w K Q else E:=by
 rw[if_pos (by simp[Region.wanted,hgd])];unfold Oper.wp execOp;simp only[ho,resolve,invoke,builtin,Sem.run_bind,Sem.run_pure,Result.andThen_ok,List.map_toArray,List.map_cons,List.map_nil,hs,hx,hr];exact h
theorem aBG(w:World)(ty:TypeId)(b o n cap:Nat)(hn:0<n)(hc:∀j,j<n*3→(w.cell? ⟨b,o+j,none⟩).isSome=true)(hf:∀j,j<n*3→w.frozen? ⟨b,o+j,none⟩=false):
  (Builtin.clear_ #[106] ty #[.slice (some ⟨b,o,none⟩) n cap]).run Tryz.prog w=.ok (.tuple #[]) (w.setCells b o ((List.replicate n e0).flatMap aJ)):=by
 have hl:((List.replicate n e0).flatMap aJ).length=n*3:=by rw[aG];simp
 have hst:=run_storeCells_cells (P:=Tryz.prog) b o ((List.replicate n e0).flatMap aJ) 0 w (by rw[hl];simpa using hc) (by rw[hl];simpa using hf) (eL _);obtain⟨i,hi,h3,_,hz⟩:=pV;have hz':(zeroValue 110).run Tryz.prog w=.ok (.agg #[.string .empty,.string .empty,.int .i64 0]) w:=by
  simp[zeroValue,typeInfo,hi,hz]
 have hcl:(Value.agg #[.string .empty,.string .empty,.int .i64 0]).cells=#[.string .empty,.string .empty,.int .i64 0]:=by kernel_rfl
 have hzc:(Builtin.zeroCells (Value.agg #[.string .empty,.string .empty,.int .i64 0]).cells n).toList=(List.replicate n e0).flatMap aJ:=by rw[hcl,aCL]
 generalize (Value.agg #[.string .empty,.string .empty,.int .i64 0])=Z at hz' hzc;generalize (List.replicate n e0).flatMap aJ=L at *;obtain⟨m,rfl⟩:∃m,n=m+1:=⟨n-1,by omega⟩;simp at hst;simp[Builtin.clear_,run_underlying Tryz.underlying106,hz',hzc,hst]
theorem rC(g:Nat)(es junk:List E3)(i j:Nat)(w:World)(hx:IsC w g (bX (es++junk)) 110)(hij:i<j)(hj:j≤es.length)(h10:es.length≤10)(hm:es.length+junk.length≤maxLen):
  Calls Tryz.prog 144 #[.slice (some ⟨g,0,none⟩) es.length (es.length+junk.length),.int .i64 i,.int .i64 j] w fun e w'=>e=.returned (.slice (some ⟨g,0,none⟩) (es.length -(j-i)) (es.length+junk.length))∧IsC w' g (bX (es.take i++es.drop j++(List.replicate (j-i) e0++junk))) 110∧Frm (fun k=>k=g) w w':=by
 obtain⟨i0,hi,h3,h40,hz⟩:=pV;have hm':es.length+junk.length≤9223372036854775807:=by simp[maxLen]at hm;omega
 have hne:((i:Int) ==(j:Int))=false:=by rw[beq_eq_false_iff_ne];omega
 have hb1:(i:Int)≤(es.length:Int)+(junk.length:Int):=by omega
 obtain⟨ad,hA,hA'⟩:∃ad:Addr,(if es.length+junk.length=j then some (⟨g,0,none⟩:Addr)else some ⟨g,j*3,none⟩)=some ad∧(0<es.length-j→ad=⟨g,j*3,none⟩):=by
  by_cases e:es.length+junk.length=j
  ·exact⟨⟨g,0,none⟩,by rw[if_pos e],fun q=>by omega⟩
  ·exact⟨⟨g,j*3,none⟩,by rw[if_neg e],fun _=>rfl⟩
 have hdl:(es.drop j).length=es.length-j:=List.length_drop;have hsrc:∀W:World,IsC W g (bX (es++junk)) 110→Src Tryz.prog i0.size 106 (.slice (some ad) (es.length-j) (es.length+junk.length-j)) (es.length-j) ((es.drop j).flatMap aJ) W:=fun W hW=>by
  refine Src.ofSlice W Tryz.underlying106 ad _ _ _ (by rw[aG,h3,hdl]) ?_ (eL _);by_cases q:0<es.length-j
  ·rw[hA' q]
   refine Esl.cells hW (by rw[hdl,lP];omega) ?_;rw[List.drop_append,hdl,List.take_append,hdl];rw[List.take_of_length_le (by rw[hdl];exact nR _)];simp
  ·have e:es.drop j=[]:=List.length_eq_zero_iff.1 (by omega)
   rw[e];intro k v hk;simp at hk
 have hsz:(bX (es++junk)).size=(es.length+junk.length)*3:=by rw[fX,lP]
 have hr:∀W:World,IsC W g (bX (es++junk)) 110→∀ty,(Builtin.append_ #[106,106] ty #[.slice (some ⟨g,0,none⟩) i (es.length+junk.length),.slice (some ad) (es.length-j) (es.length+junk.length-j)]).run Tryz.prog W=.ok (.slice (some ⟨g,0,none⟩) (i+(es.length-j)) (es.length+junk.length)) (W.setCells g (i*3) ((es.drop j).flatMap aJ)):=fun W hW ty=>by
  have:=run_append_room_src (P:=Tryz.prog) W 106 106 ty 110 i0 Tryz.underlying106 hi g 0 i (es.length+junk.length) _ _ _ (hsrc W hW) (by omega)
   (fun k hk=>by rw[aG,hdl]at hk;rw[hW.cell,h3,Array.getElem?_eq_getElem (by rw[hsz];omega)];rfl) (fun k hk=>hW.frozen _)
  rw[h3,Nat.zero_add]at this;exact this
 clear hsrc hdl;obtain⟨lo,hlo⟩:∃lo,lo=i+(es.length-j):=⟨_,rfl⟩;have hr':∀W:World,IsC W g (bX (es++junk)) 110→∀ty,(Builtin.append_ #[106,106] ty #[.slice (some ⟨g,0,none⟩) i (es.length+junk.length),.slice (some ad) (es.length-j) (es.length+junk.length-j)]).run Tryz.prog W=.ok (.slice (some ⟨g,0,none⟩) lo (es.length+junk.length)) (W.setCells g (i*3) ((es.drop j).flatMap aJ)):=fun W hW ty=>by rw[hlo];exact hr W hW ty
 clear hr;have HL:Hid (lo=i+(es.length-j)):=hlo;have q1:¬es.length+junk.length=lo:=by omega
 have q2:(lo:Int)≤(es.length:Int):=by omega
 have q3:(es.length:Int)≤(es.length:Int)+(junk.length:Int):=by omega
 have q4:lo<es.length:=by omega
 clear hlo;have hx2:∀W:World,IsC W g (bX (es++junk)) 110→IsC (W.setCells g (i*3) ((es.drop j).flatMap aJ)) g (bX (spl (es++junk) i (es.drop j))) 110:=fun W hW=>by
  have:=IsC.sets ((es.drop j).flatMap aJ) (cs:=(es++junk).flatMap aJ) (i*3) hW (by rw[aG,aG,lP,List.length_drop];omega)
  rw[gI]at this;exact this
 have hsp:(spl (es++junk) i (es.drop j)).length=es.length+junk.length:=by
  unfold spl;simp only[lP,List.length_take,List.length_drop];omega
 have hcl:∀W:World,IsC W g (bX (spl (es++junk) i (es.drop j))) 110→∀ty c,(Builtin.clear_ #[106] ty #[.slice (some ⟨g,lo*3,none⟩) (es.length-lo) c]).run Tryz.prog W=.ok (.tuple #[]) (W.setCells g (lo*3) ((List.replicate (es.length-lo) e0).flatMap aJ)):=fun W hW ty c=>
  aBG W ty g (lo*3) (es.length-lo) c (by omega) (fun k hk=>by rw[hW.cell,Array.getElem?_eq_getElem (by rw[fX,hsp];omega)];rfl) (fun k hk=>hW.frozen _)
 go_enter Tryz.func144,Tryz.ntmps144
 go_wp2_with fail
 go_region_law (refine wS (by rfl) _ _ _ _ (by rfl) (.slice (some ⟨g,0,none⟩) i (es.length+junk.length)) (.slice (some ad) (es.length-j) (es.length+junk.length-j)) (by rfl) (by rfl) _ _ (hr' _ (by first | exact hx | exact hx.drew | exact hx.drew.drew) _) ?_)
 have hclr:=hcl (w.drew.setCells g (i*3) ((es.drop j).flatMap aJ)) (hx2 _ hx.drew);go_wp2;go_ret;have e:=HL.out;have hfin:=IsC.sets ((List.replicate (es.length-lo) e0).flatMap aJ) (cs:=(spl (es++junk) i (es.drop j)).flatMap aJ) (lo*3) (hx2 _ hx.drew) (by rw[aG,aG,hsp,List.length_replicate];omega);rw[gI]at hfin;have hlist:spl (spl (es++junk) i (es.drop j)) lo (List.replicate (es.length-lo) e0)=es.take i++es.drop j++(List.replicate (j-i) e0++junk):=by
  have l2:(es.take i++es.drop j).length=lo:=by simp only[lP,List.length_take,List.length_drop];omega
  have hX:spl (es++junk) i (es.drop j)=es.take i++es.drop j++(es++junk).drop lo:=by
   unfold spl;rw[List.take_append_of_le_length (by omega),List.length_drop,show i+(es.length-j)=lo by omega]
  rw[hX];unfold spl;have t1:(es.take i++es.drop j++(es++junk).drop lo).take lo=es.take i++es.drop j:=by
   have tl:∀(A Y:List E3),A.length=lo→(A++Y).take lo=A:=fun A Y h=>by rw[←h];exact List.take_left
   exact tl _ _ l2
  have t2:(es.take i++es.drop j++(es++junk).drop lo).drop (lo+(List.replicate (es.length-lo) e0).length)=junk:=by
   rw[List.length_replicate,←List.drop_drop];have dl:∀(A Y:List E3),A.length=lo→(A++Y).drop lo=Y:=fun A Y h=>by rw[←h];exact List.drop_left
   rw[dl _ _ l2,List.drop_drop,show lo+(es.length-lo)=es.length by omega];exact List.drop_left
  rw[t1,t2,show es.length-lo=j-i by omega,List.append_assoc]
 rw[hlist]at hfin;refine⟨by rw[show es.length -(j-i)=lo by omega];simp,hfin.drew,?_⟩;exact(((Frm.drew (fun k=>k=g) w).trans (Frm.sets (S:=fun k=>k=g) _ rfl _ _)).trans (Frm.sets (S:=fun k=>k=g) _ rfl _ _)).trans (Frm.refl _ _)
theorem aFQ(es junk vs:List E3)(h:vs.length≤junk.length):spl (es++junk) es.length vs=es++vs++junk.drop vs.length:=by
 unfold spl;rw[List.take_left,←List.drop_drop,List.drop_left]
theorem aCK{α:Type}(l:List α)(o:Nat)(vs:List α)(h:o+vs.length≤l.length):(spl l o vs).length=l.length:=by
 unfold spl;simp only[lP,List.length_take,List.length_drop];omega
theorem aKH{need old:Nat}(h:need≤20)(ho:old<need):Builtin.nextslicecap need old*40≤281474976710656:=by
 have:=growslice_fits (bytes:=40) (need:=need) (old:=old) (by omega) (by omega)
 exact this
theorem zM(a:Option Nat)(es junk vs:List E3)(v:Value)(W:World)(ha:∀g,a=some g→IsC W g (bX (es++junk)) 110)(hn:a=none→es=[]∧junk=[])(hv:Esl W v vs)(h20:es.length+vs.length≤20)(hm:es.length+junk.length≤maxLen):
  ∃u W' a' junk',(∀ty,(Builtin.append_ #[106,106] ty #[.slice (adr a) es.length (es.length+junk.length),v]).run Tryz.prog W=.ok u W')∧u=.slice (adr a') (es.length+vs.length) (es.length+vs.length+junk'.length)∧
   (∀g,a'=some g→IsC W' g (bX (es++vs++junk')) 110∧(a=some g∨W.heap.size≤g))∧(a'=none→es=[]∧vs=[]∧junk'=[])∧es.length+vs.length+junk'.length≤maxLen∧Frm (fun k=>a=some k) W W':=by
 obtain⟨i0,hi,h3,h40,hz⟩:=pV;have hsrc:Src Tryz.prog i0.size 106 v vs.length (vs.flatMap aJ) W:=by
  rcases hv with⟨rfl,rfl⟩ | ⟨gv,o,cap,xs,rfl,hx,hl,he⟩
  ·exact Src.ofNil W Tryz.underlying106 0
  ·exact Src.ofSlice W Tryz.underlying106 ⟨gv,o*3,none⟩ vs.length cap _ (by rw[aG,h3]) (Esl.cells hx hl he) (eL vs)
 by_cases hroom:vs.length≤junk.length
 ·cases a with
  | none=>
   obtain⟨rfl,rfl⟩:=hn rfl;have hv0:vs=[]:=List.length_eq_zero_iff.1 (by simpa using hroom);subst hv0;refine⟨_,W,none,[],fun ty=>?_,rfl,fun g q=>(by cases q),fun _=>⟨rfl,rfl,rfl⟩,by simp,Frm.refl _ _⟩;have:=run_append_nothing (P:=Tryz.prog) W 106 106 ty 110 i0 Tryz.underlying106 hi none 0 0 (nR _) v hsrc;exact this
  | some g=>
   have hg:=ha g rfl;refine⟨_,_,some g,junk.drop vs.length,fun ty=>run_append_room_src (P:=Tryz.prog) W 106 106 ty 110 i0 Tryz.underlying106 hi g 0 es.length (es.length+junk.length) v _ _ hsrc (by omega)
    (fun k hk=>by rw[aG]at hk;rw[hg.cell,h3,Array.getElem?_eq_getElem (by rw[fX,lP];omega)];rfl) (fun k hk=>hg.frozen _),?_,fun g' q=>?_,fun q=>(by cases q),?_,?_⟩
   ·simp[adr];omega
   ·cases q
    refine⟨?_,.inl rfl⟩;have:=IsC.sets (vs.flatMap aJ) (cs:=(es++junk).flatMap aJ) (es.length*3) hg (by rw[aG,aG,lP];omega);rw[gI,aFQ _ _ _ hroom]at this;rw[h3,Nat.zero_add];exact this
   ·simp;omega
   ·exact Frm.sets (S:=fun k=>some g=some k) _ rfl _ _
 ·have hfc:(Builtin.firstCells i0.size es.length (.slice (adr a) es.length (es.length+junk.length))).run Tryz.prog W.drew=.ok (es.flatMap aJ).toArray W.drew:=by
   cases a with
   | none=>
    obtain⟨rfl,rfl⟩:=hn rfl;exact run_firstCells_none (P:=Tryz.prog) W.drew i0.size 0 0 0
   | some g=>
    have hg:=ha g rfl;exact run_firstCells_some (P:=Tryz.prog) W.drew i0.size es.length ⟨g,0,none⟩ es.length _ (es.flatMap aJ) (by rw[aG,h3]) (by
     have:=Esl.cells (w:=W.drew) (g:=g) (o:=0) (xs:=es++junk) (es:=es) hg.drew (by rw[lP];omega) (by simp)
     rw[Nat.zero_mul]at this;exact this)
  have hr:=fun ty=>run_append_grow_src (P:=Tryz.prog) W 106 106 ty 110 i0 _ Tryz.underlying106 hi hz (adr a) es.length (es.length+junk.length) (es.flatMap aJ) hfc v vs.length (vs.flatMap aJ) hsrc (by omega) (by omega) (by rw[h40];exact aKH (by omega) (by omega));have hge:=grownCap_ge W (es.length+vs.length) (es.length+junk.length) 110;have hle:=grownCap_le_maxLen W (es.length+vs.length) (es.length+junk.length) 110 (by simp[maxLen];omega);generalize grownCap W (es.length+vs.length) (es.length+junk.length) 110=gc at *;refine⟨_,_,some W.heap.size,List.replicate (gc -(es.length+vs.length)) e0,hr,?_,fun g q=>?_,fun q=>(by cases q),?_,?_⟩
  ·simp[adr];omega
  ·cases q
   refine⟨?_,.inr (nR _)⟩;have hcl:(Value.agg #[.string .empty,.string .empty,.int .i64 0]).cells=#[.string .empty,.string .empty,.int .i64 0]:=by kernel_rfl
   have:=IsC.new W.drew ((es.flatMap aJ++vs.flatMap aJ).toArray++Builtin.zeroCells (Value.agg #[.string .empty,.string .empty,.int .i64 0]).cells (gc -(es.length+vs.length))) 110
   have e:bX (es++vs++List.replicate (gc -(es.length+vs.length)) e0)=(es.flatMap aJ++vs.flatMap aJ).toArray++Builtin.zeroCells (Value.agg #[.string .empty,.string .empty,.int .i64 0]).cells (gc -(es.length+vs.length)):=by
    rw[hcl,aCL];simp[bX]
   rw[e];exact this
  ·simp;omega
  ·exact(Frm.drew _ W).trans (Frm.alloc _ _ _)
def aMC(v:Value)(a:Option Nat):Prop:=∀gv o n c,v=.slice (some ⟨gv,o,none⟩) n c→a≠some gv
structure zZ(w w':World)(a:Option Nat)(u:Value)(ls:List E3):Prop where
 ex:∃a' junk',u=.slice (adr a') ls.length (ls.length+junk'.length)∧(∀g,a'=some g→IsC w' g (bX (ls++junk')) 110∧(a=some g∨w.heap.size≤g))∧a'≠none∧ls.length+junk'.length≤maxLen
 frm:Frm (fun k=>a=some k) w w'
theorem aAX(a:Option Nat)(es junk vs:List E3)(v:Value)(w:World)(ha:∀g,a=some g→IsC w g (bX (es++junk)) 110)(hn:a=none→es=[]∧junk=[])(hv:Esl w v vs)(hvl:∃b c,v=.slice b vs.length c)(h0:0<vs.length)(h20:es.length+vs.length≤10)(hm:es.length+junk.length≤maxLen):
  Calls Tryz.prog 120 #[.slice (adr a) es.length (es.length+junk.length),.int .i64 es.length,v] w fun e w'=>∃u,e=.returned u∧zZ w w' a u (es++vs):=by
 obtain⟨u,W',a',junk',hr,rfl,h1,h2,h3,h4⟩:=zM a es junk vs v w ha hn hv (by omega) hm;have hr':=hr 106;obtain⟨b,c,rfl⟩:=hvl;have hm':es.length+junk.length≤9223372036854775807:=by simp[maxLen]at hm;omega
 have hz:((vs.length:Int) == 0)=false:=by rw[beq_eq_false_iff_ne];omega
 have fin:∃u,Ending.returned (Value.slice (adr a') (es.length+vs.length) (es.length+vs.length+junk'.length))=.returned u∧zZ w W' a u (es++vs):=
  ⟨_,rfl,⟨a',junk',by rw[lP],h1,fun e=>by obtain⟨_,q,_⟩:=h2 e;rw[q]at h0;simp at h0,by rw[lP];exact h3⟩,h4⟩
 have HF:Hid (∃u,Ending.returned (Value.slice (adr a') (es.length+vs.length) (es.length+vs.length+junk'.length))=.returned u∧zZ w W' a u (es++vs)):=fin;clear h1 h2 h3 h4 fin hv ha hr hn;go_enter Tryz.func120,Tryz.ntmps120;go_wp2_with (at_builtin;refine cF rfl _ _ _ _ rfl (.slice (adr a) es.length (es.length+junk.length)) (.slice b vs.length c) rfl rfl _ _ hr' ?_)
 all_goals (go_ret;exact HF.out)
theorem nU(W:World)(ty:TypeId)(g:Nat)(es:List E3)(cap k:Nat)(hs:∀j v,(es.flatMap aJ)[j]?=some v→W.cell? ((⟨g,0,none⟩:Addr).add j)=some v)(hk:0<k)(hc:cap<es.length+k)(h20:es.length+k≤20):
  ∃gc,es.length+k≤gc∧gc≤maxLen∧(Builtin.append_ #[106,3] ty #[.slice (some ⟨g,0,none⟩) es.length cap,.int .i64 k]).run Tryz.prog W =
   .ok (.slice (some ⟨W.heap.size,0,none⟩) (es.length+k) gc) (W.drew.alloc (.cells (bX (es++List.replicate (gc-es.length) e0)) 110)):=by
 obtain⟨i0,hi,h3,h40,hz⟩:=pV;have hge:=grownCap_ge W (es.length+k) cap 110;have hle:=grownCap_le_maxLen W (es.length+k) cap 110 (by simp[maxLen];omega);refine⟨grownCap W (es.length+k) cap 110,hge,hle,?_⟩;have hfc:(Builtin.firstCells i0.size es.length (.slice (some ⟨g,0,none⟩) es.length cap)).run Tryz.prog W.drew=.ok (es.flatMap aJ).toArray W.drew:=
  run_firstCells_some (P:=Tryz.prog) W.drew i0.size es.length ⟨g,0,none⟩ es.length _ (es.flatMap aJ) (by rw[aG,h3]) (by simpa using hs)
 have hw:IntKind.i64.wrap (k:Int)=k:=by rw[IntKind.wrap_i64];omega
 have hneg:¬((k:Int)<0):=by omega
 have h48:¬(281474976710656 <(k:Int)*(40:Int)):=by omega
 have hn:¬(es.length+k≤cap):=by omega
 have h63:¬(9223372036854775807 <((es.length:Int)+(k:Int))):=by omega
 have hfit:¬(281474976710656<Builtin.nextslicecap (es.length+k) cap*40):=by have:=aKH (need:=es.length+k) (old:=cap) (by omega) (by omega);omega
 have hcl:(Value.agg #[.string .empty,.string .empty,.int .i64 0]).cells=#[.string .empty,.string .empty,.int .i64 0]:=by kernel_rfl
 have hzk:∀m,Builtin.zeroCells (Value.agg #[.string .empty,.string .empty,.int .i64 0]).cells m=((List.replicate m e0).flatMap aJ).toArray:=fun m=>by rw[hcl,aCL]
 generalize (Value.agg #[.string .empty,.string .empty,.int .i64 0])=Z at hz hzk;have hk3:¬(k*3=0):=by omega
 have hint:Tryz.prog.underlying 3=some (.int .i64):=Tryz.underlying3;have hrow:((es.flatMap aJ).toArray++((List.replicate k e0).flatMap aJ).toArray++((List.replicate (grownCap W (es.length+k) cap 110 -(es.length+k)) e0).flatMap aJ).toArray)=bX (es++List.replicate (grownCap W (es.length+k) cap 110-es.length) e0):=by
  have e:List.replicate (grownCap W (es.length+k) cap 110-es.length) e0=List.replicate k e0++List.replicate (grownCap W (es.length+k) cap 110 -(es.length+k)) e0:=by
   rw[List.replicate_append_replicate];congr 1;omega
  apply Array.toList_inj.1
  simp only[bX,e,Array.toList_append,List.flatMap_append,List.append_assoc]
 rw[h3]at hfc;generalize bX (es++List.replicate (grownCap W (es.length+k) cap 110-es.length) e0)=R at hrow ⊢;simp[Builtin.append_,run_underlying Tryz.underlying106,run_underlying hint,sizeOf,typeInfo,zeroValue,asInt,asIntOf,hi,h3,h40,hz,hw,hneg,h48,hn,h63,hfit,Question.forced,hfc,hzk,newRow,grownCap,hk3];rw[←hrow];simp[grownCap]
theorem xS(g:Nat)(es junk vs:List E3)(b:Option Addr)(c i:Nat)(w:World)(hx:IsC w g (bX (es++junk)) 110)(hv:Esl w (.slice b vs.length c) vs)(hi:i<es.length)(h0:0<vs.length)(h20:es.length+vs.length≤10)(hroom:junk.length<vs.length):
  Calls Tryz.prog 120 #[.slice (some ⟨g,0,none⟩) es.length (es.length+junk.length),.int .i64 i,.slice b vs.length c] w fun e w'=>∃u,e=.returned u∧zZ w w' (some g) u (es.take i++vs++es.drop i):=by
 rcases hv with⟨hv,hv'⟩ | ⟨gv,o,cap,xs,hv,hxv,hlv,hev⟩
 ·rw[hv']at h0;simp at h0
 simp only[Value.slice.injEq,true_and]at hv;obtain⟨rfl,rfl⟩:=hv;have htl:(es.take i).length=i:=by rw[List.length_take];omega
 obtain⟨k,hk⟩:∃k,k=es.length+vs.length-i:=⟨_,rfl⟩;have hsrc0:∀j v,((es.take i).flatMap aJ)[j]?=some v→w.cell? ((⟨g,0,none⟩:Addr).add j)=some v:=by
  have:=Esl.cells (w:=w) (g:=g) (o:=0) (xs:=es++junk) (es:=es.take i) hx (by rw[htl,lP];omega) (by rw[htl];simp[List.take_append_of_le_length (show i≤es.length by omega)])
  rw[Nat.zero_mul]at this;exact this
 obtain⟨gc,hg1,hg2,hap⟩:∃gc,es.length+vs.length≤gc∧gc≤maxLen∧∀ty,(Builtin.append_ #[106,3] ty #[.slice (some ⟨g,0,none⟩) i (es.length+junk.length),.int .i64 k]).run Tryz.prog w =
   .ok (.slice (some ⟨w.heap.size,0,none⟩) (es.length+vs.length) gc) (w.drew.alloc (.cells (bX (es.take i++List.replicate (gc-i) e0)) 110)):=by
  obtain⟨gc,q1,q2,q3⟩:=nU w 3 g (es.take i) (es.length+junk.length) k hsrc0 (by omega) (by rw[htl];omega) (by rw[htl];omega);rw[htl]at q1 q3;have hik:i+k=es.length+vs.length:=by omega
  rw[hik]at q1 q3;exact⟨gc,q1,q2,fun ty=>q3⟩
 have HK:Hid (k=es.length+vs.length-i):=hk;have hm':gc≤9223372036854775807:=by simp[maxLen]at hg2;omega
 obtain⟨W1,hW1⟩:∃W1,W1=w.drew.alloc (.cells (bX (es.take i++List.replicate (gc-i) e0)) 110):=⟨_,rfl⟩;rw[←hW1]at hap;have hN:IsC W1 w.heap.size (bX (es.take i++List.replicate (gc-i) e0)) 110:=by rw[hW1];exact IsC.new _ _ _
 have hF1:Frm (fun k=>some g=some k) w W1:=by rw[hW1];exact(Frm.drew _ w).trans (Frm.alloc _ _ _)
 have hx1:IsC W1 g (bX (es++junk)) 110:=by rw[hW1];exact hx.drew.alloc _
 have hxv1:IsC W1 gv (bX xs) 110:=by rw[hW1];exact hxv.drew.alloc _
 have hgs:=hx.lt;have hHW:Hid (W1=w.drew.alloc (.cells (bX (es.take i++List.replicate (gc-i) e0)) 110)):=hW1;clear hW1;have hnl:(es.take i++List.replicate (gc-i) e0).length=gc:=by simp[htl];omega
 have hcp1:∀ty,(Builtin.copy_ #[106,106] ty #[.slice (some ⟨w.heap.size,i*3,none⟩) k (gc-i),.slice (some ⟨gv,o*3,none⟩) vs.length c]).run Tryz.prog W1=.ok (goInt vs.length) (W1.setCells w.heap.size (i*3) (vs.flatMap aJ)):=fun ty=>by
  have hmin:Nat.min vs.length k=vs.length:=Nat.min_eq_left (by omega);have:=lS W1 ty w.heap.size (i*3) k (gc-i) ⟨gv,o*3,none⟩ vs.length c (vs.flatMap aJ) (by rw[aG,hmin]) (Esl.cells hxv1 hlv hev) (fun j hj=>by rw[aG]at hj;rw[hN.cell,Array.getElem?_eq_getElem (by rw[fX,hnl];omega)];rfl) (fun j hj=>hN.frozen _) (eL vs);rw[hmin]at this;exact this
 obtain⟨W2,hW2⟩:∃W2,W2=W1.setCells w.heap.size (i*3) (vs.flatMap aJ):=⟨_,rfl⟩;rw[←hW2]at hcp1;have hN2:IsC W2 w.heap.size (bX (spl (es.take i++List.replicate (gc-i) e0) i vs)) 110:=by
  have:=IsC.sets (vs.flatMap aJ) (cs:=(es.take i++List.replicate (gc-i) e0).flatMap aJ) (i*3) hN (by rw[aG,aG,hnl];omega)
  rw[gI]at this;rw[hW2];exact this
 have hF2:Frm (fun k=>k=w.heap.size) W1 W2:=by rw[hW2];exact Frm.sets (S:=fun k=>k=w.heap.size) _ rfl _ _
 have hx2:IsC W2 g (bX (es++junk)) 110:=hx1.frm hF2 (by omega);clear hW2;have hdl:(es.drop i).length=es.length-i:=List.length_drop;have hs2l:(spl (es.take i++List.replicate (gc-i) e0) i vs).length=gc:=by rw[aCK _ _ _ (by rw[hnl];omega)];exact hnl
 obtain⟨p,hp⟩:∃p,p=i+vs.length:=⟨_,rfl⟩;have hcp2:∀W ty,IsC W g (bX (es++junk)) 110→IsC W w.heap.size (bX (spl (es.take i++List.replicate (gc-i) e0) i vs)) 110→(Builtin.copy_ #[106,106] ty #[.slice (some ⟨w.heap.size,p*3,none⟩) (es.length+vs.length-p) (gc-p),.slice (some ⟨g,i*3,none⟩) (es.length-i) (es.length+junk.length-i)]).run Tryz.prog W=.ok (goInt ((es.length-i:Nat):Int)) (W.setCells w.heap.size (p*3) ((es.drop i).flatMap aJ)):=fun W ty hW hW'=>by
  have hmin:Nat.min (es.length-i) (es.length+vs.length-p)=es.length-i:=Nat.min_eq_left (by omega);have:=lS W ty w.heap.size (p*3) (es.length+vs.length-p) (gc-p) ⟨g,i*3,none⟩ (es.length-i) (es.length+junk.length-i) ((es.drop i).flatMap aJ) (by rw[aG,hmin,hdl])
   (Esl.cells (es:=es.drop i) hW (by rw[hdl,lP];omega) (by rw[hdl,List.drop_append_of_le_length (by omega),List.take_append_of_le_length (by rw[hdl];exact nR _),List.take_of_length_le (by rw[hdl];exact nR _)]))
   (fun j hj=>by rw[aG,hdl]at hj;rw[hW'.cell,Array.getElem?_eq_getElem (by rw[fX,hs2l];omega)];rfl) (fun j hj=>hW'.frozen _) (eL _)
  rw[hmin]at this;exact this
 have hcp3:=fun ty=>hcp2 W2.drew ty hx2.drew hN2.drew;clear hcp2;have hpi:(i:Int)+(vs.length:Int)=(p:Int):=by omega
 have hpw:IntKind.i64.wrap (p:Int)=(p:Int):=by rw[IntKind.wrap_i64];omega
 have n3:¬gc=p:=by omega
 have hile:i≤es.length:=by omega
 have n4:(p:Int)≤(es.length:Int)+(vs.length:Int):=by omega
 have n5:p<gc:=by omega
 have hp6:p+(es.length-i)=es.length+vs.length:=by omega
 have HP:Hid (p=i+vs.length):=hp;have HP6:Hid (p+(es.length-i)=es.length+vs.length):=hp6;clear hp hp6;have hz:((vs.length:Int) == 0)=false:=by rw[beq_eq_false_iff_ne];omega
 have hne:((i:Int) ==(es.length:Int))=false:=by rw[beq_eq_false_iff_ne];omega
 have hgt:decide ((es.length:Int)+(junk.length:Int) <(es.length:Int)+(vs.length:Int))=true:=by rw[decide_eq_true_eq];omega
 have hki:(es.length:Int)+(vs.length:Int) -(i:Int)=(k:Int):=by omega
 have hb1:(i:Int)≤(es.length:Int)+(junk.length:Int):=by omega
 have hkk:es.length+vs.length-i=k:=HK.out.symm;have n1:¬es.length+junk.length=i:=by omega
 have n2:¬gc=i:=by omega
 have HKK:Hid (es.length+vs.length-i=k):=hkk;clear hk;go_enter Tryz.func120,Tryz.ntmps120;go_wp2_with (at_builtin;refine cF rfl _ _ _ _ rfl (.slice (some ⟨g,0,none⟩) i (es.length+junk.length)) (.int .i64 k) rfl rfl _ _ (hap _) ?_);go_region_law (fail);go_wp2;go_ret;have e1:=HP.out;have e6:=HP6.out;have hfin:=IsC.sets ((es.drop i).flatMap aJ) (cs:=(spl (es.take i++List.replicate (gc-i) e0) i vs).flatMap aJ) (p*3) hN2.drew (by rw[aG,aG,hs2l,hdl];omega);rw[gI]at hfin;have hlist:spl (spl (es.take i++List.replicate (gc-i) e0) i vs) p (es.drop i)=es.take i++vs++es.drop i++List.replicate (gc -(es.length+vs.length)) e0:=by
  have tl:∀(A Y:List E3) (n:Nat),A.length=n→(A++Y).take n=A:=fun A Y n h=>by rw[←h];exact List.take_left
  have dl:∀(A Y:List E3) (n:Nat),A.length=n→(A++Y).drop n=Y:=fun A Y n h=>by rw[←h];exact List.drop_left
  have hA:spl (es.take i++List.replicate (gc-i) e0) i vs=es.take i++vs++List.replicate (gc-p) e0:=by
   unfold spl;rw[tl _ _ _ htl,←List.drop_drop,dl _ _ _ htl,List.drop_replicate];congr 2;omega
  have l2:(es.take i++vs).length=p:=by rw[lP,htl];omega
  rw[hA];unfold spl;rw[tl _ _ _ l2,←List.drop_drop,dl _ _ _ l2,List.drop_replicate,hdl];congr 2;omega
 rw[hlist]at hfin;refine⟨_,rfl,⟨some w.heap.size,List.replicate (gc -(es.length+vs.length)) e0,?_,fun g' q=>?_,by simp,?_⟩,?_⟩
 ·have hl:(es.take i++vs++es.drop i).length=es.length+vs.length:=by simp only[lP,htl,hdl];omega
  rw[hl];simp[adr];omega
 ·cases q;exact⟨hfin,.inr (nR _)⟩
 ·have hl:(es.take i++vs++es.drop i).length=es.length+vs.length:=by simp only[lP,htl,hdl];omega
  rw[hl];simp;omega
 ·have hF2':Frm (fun k=>some g=some k) w W2.drew:=⟨hF2.os.trans hF1.os,hF2.tape.trans hF1.tape,hF2.output.trans hF1.output,lT hF1.size hF2.size,fun k hk hn=>(hF2.block k (lL hk hF1.size) (by omega)).trans (hF1.block k hk hn)⟩
  have hF3:Frm (fun k=>k=w.heap.size) W2.drew (W2.drew.setCells w.heap.size (p*3) ((es.drop i).flatMap aJ)):=Frm.sets (S:=fun k=>k=w.heap.size) _ rfl _ _;exact⟨hF3.os.trans hF2'.os,hF3.tape.trans hF2'.tape,hF3.output.trans hF2'.output,lT hF2'.size hF3.size,fun k hk hn=>(hF3.block k (lL hk hF2'.size) (by omega)).trans (hF2'.block k hk hn)⟩
