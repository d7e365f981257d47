import Derived.Stop.RegionWithIn
import Derived.Test.YtmpagpeenjddgaaGreatHq13
set_option maxHeartbeats 9999999
set_option maxRecDepth 99999
set_option linter.all false
namespace Go.Proofs.YtmpagpeenjddgaaGreat
open Go.RowKit Fo
structure FdR(w:World)(A:Adr)(f:fZ)(key:ByteArray)(H:Nat)(r:OB)(h:Nat)(v:Value)(W:World):Prop where
 ex:∃q b lo hi,v=pT q 0/\A.φ b=some q/\Bl w W/\Ok f.n h b lo hi/\Fo.find f.n h b key=r
theorem aDS{K:Int}(w:World)(ρ:Nat->Nat)(P:Nat)(A:Adr)(f:fZ)(J:List aS)(H b:Nat)(u t:OB)(key:ByteArray)(ug:St w ρ P A f J)(hI:IC f)(z:Ok f.n H b u t)(y:Sz K f):
  Calls Tryz.prog 82 #[pT P 0,iV b,.string key] w fun e w'=>e=.returned (.tuple #[.string ((Fo.find f.n H b key).getD .empty),.bool (Fo.find f.n H b key).isSome])/\Bl w w':=by
 obtain⟨ja,jp,jj,I,hJ⟩:=id ug;have WK:=y.al;have OO:∀(W:World) (x q:Nat),Bl w W->A.φ x=some q->x<512->(Instr.lookup 64 (.map (some A.m)) (iV x) false).run Tryz.prog W=.ok (pT q 0) W:=fun W x q l hx hl=>by
  have:=(I.hm.of (l.block _ I.hm.lt)).lookup x hl
  rw[hx]at this;simpa only[fB,Option.map_some] using this
 have PT:=aA OO;clear OO;have S:∀(h b:Nat) (u t:OB),Ok f.n h b u t->∃d,f.n b=some d:=fun h b u t n=>by
  cases h with
  | zero=>obtain⟨es,o,_⟩:=n;exact⟨_,o⟩
  | succ h=>obtain⟨es,o,_⟩:=n;exact⟨_,o⟩
 obtain⟨d,hd⟩:=S _ _ _ _ z;obtain⟨q0,Z,Wn,-,-,Fu⟩:=ug.ah hd;have d5:=y.lt b d hd;have m3:=I.cells.m3;have LR:=PT.out w b q0 (bQ _ _) Wn (by omega);obtain⟨m,yo,pd⟩:=mA (FdR w A f key H (Fo.find f.n H b key));have Fi:=aA yo;have Fj:=aA pd;have EH:∃h0,FdR w A f key H (Fo.find f.n H b key) h0 (pT q0 0) w:=⟨H,q0,b,u,t,rfl,Wn,bQ _ _,z,rfl⟩;have PV:=aA S;generalize hr:Fo.find f.n H b key=r at *;clear yo pd S;have D7:=I.hP.lt;go_enter Tryz.func82,Tryz.ntmps82;go_wp2;clear LR;go_loopw [8] (fun v wr=>∃h,FdR w A f key H r h v wr) (fun v wr=>m v wr)
 case atStart=>exact EH
 case round=>
  obtain⟨h',Au⟩:=hrel;have Vb:=Fi.out _ _ _ Au;clear Au EH;obtain⟨h,Hh⟩:=exH (m u8 wr);rw[<-Hh.out]at Vb;obtain⟨q,b,u,t,rfl,hφ,l,z,V⟩:=Vb;have U:=ug.ae (w':=wr) (Frm.aa l);have n3:wr.cell? (aD P 3)=some (.map (some A.m)):=(l.cell (p:=aD P 3) D7).trans m3;cases h with
  | succ h=>
   obtain⟨es,s,ur,au,e4,e5⟩:=z;obtain⟨q',j,o,-,-,k⟩:=U.ah s;rw[hφ]at o;cases o;have G:=y.ai b _ s;simp only at G;obtain⟨g,hg⟩:=k.bf (by simp only;exact List.length_pos_iff.2 au);rw[hg]at k;have F:bL es key<es.length:=eJ key au;obtain⟨c,C⟩:=exH (kd es (bL es key));obtain⟨dc,X⟩:=PV.out _ _ _ _ (e5 _ F).2;rw[<-C.out]at X;obtain⟨B,junkc,DL,-,-,-⟩:=U.ah X;have ap:=y.lt c _ X;have qy:(es.getD (bL es key) e0).2.2=(c:Int):=by
    have:=hI.ar s F
    rw[C.out];unfold kd ch;omega
   have uo:Fo.find f.n h c key=r:=by
    rw[<-V,C.out];conv=>rhs;unfold Fo.find;rw[cZ s]
   have Oa:=(e5 _ F).2;rw[<-C.out]at Oa;have O:=(bM (k.arr g rfl).1 (i:=bL es key) (by simp;omega)).2.2;rw[gD,List.getElem?_append_left F,<-gD,qy]at O;have Q:∀W:World,Bl wr W->W.cell? (aD P 3)=some (.map (some A.m))/\W.cell? (aD q 1)=some (sL g 0 es.length (es.length+j.length))/\W.cell? (aD g (bL es key*3+2))=some (iV c)/\(Instr.lookup 64 (.map (some A.m)) (iV c) false).run Tryz.prog W=.ok (pT B 0) W:=fun W L=>by
    have MA:=k.below L;refine⟨(L.cell (p:=aD P 3) (lL D7 l.size)).trans n3,by rw[MA.box.cell];rfl,(L.cell (p:=aD g (bL es key*3+2)) (k.arr g rfl).1.lt).trans O,PT.out W c B (l.trans (L.mono l.size)) DL (by omega)⟩
   have vw:=aA Q;have OH:((bL es key:Nat):Int) <(es.length:Int):=by omega
   have R:wr.cell? (aD q 0)=some (iV 2):=by rw[k.box.cell];rfl
   have al:=Q wr (bQ _ _);clear Q O qy;generalize NH:bL es key=i at *;have dm:=vw.out wr.drew (bQ wr.heap.size wr).drew;go_wp2;go_region_held3 (fun W=>W.cell? (aD P 3)=some (.map (some A.m))/\W.cell? (aD q 1)=some (sL g 0 es.length (es.length+j.length))/\W.cell? (aD g (i*3+2))=some (iV c)/\(Instr.lookup 64 (.map (some A.m)) (iV c) false).run Tryz.prog W=.ok (pT B 0) W) (first | go_keep | exact dm | exact vw.out _ T) ((go_at_call 103;refine(hZ q (2,es) (some g) j key _ (k.below (bQ _ _).drew) ur.a6 G).mono ?_;rintro e w1 ⟨rfl,E⟩;have T:Bl wr w1:=(bQ wr.heap.size wr).drew.trans E;obtain⟨x1,x2,x3,x4⟩:=vw.out _ T;simp only[NH]));have D:=l.trans (T.mono l.size);have m0:FdR w A f key H r h (pT B 0) w1:=⟨B,c,_,_,rfl,DL,D,Oa,uo⟩;clear x1 x2 x3 x4 al dm;go_wp2;go_roundw
   case rel=>exact⟨h,m0⟩
   case measure=>
    have h1:=Fj.out _ _ _ m0;have h2:=Hh.out;exact Nat.lt_of_le_of_lt h1 (by show h<m _ _;rw[<-h2];exact Nat.lt_succ_self h)
  | zero=>
   obtain⟨es,s,ur,zi⟩:=z;obtain⟨q',j,o,-,-,k⟩:=U.ah s;rw[hφ]at o;cases o;have G:=y.ai b _ s;simp only at G;obtain⟨a,ha⟩:∃a,a=A.α b:=⟨_,rfl⟩;rw[<-ha]at k;clear ha;have R:wr.cell? (aD q 0)=some (iV 1):=by rw[k.box.cell];rfl
   have c1:wr.cell? (aD q 1)=some (.slice (adr a) es.length (es.length+j.length)):=by rw[k.box.cell];rfl
   have M:NRd wr (.slice (adr a) es.length (es.length+j.length)) es:=k.dp.ep;have FB:r=if fM es key=true then some (es.getD (cLt es key) e0).2.1 else none:=by rw[<-V];unfold Fo.find;rw[cZ s]
   have PP:=aA FB;clear V FB hr;go_wp2_with fail;refine(iG _ es key _ M (by omega) ur.a6).mono ?_;rintro e w5 ⟨E,he⟩;have F8:e=.returned (.tuple #[iV (cLt es key),.bool (fM es key)]):=he;subst F8;have D:=l.trans (E.mono l.size);by_cases n:fM es key=true
   ·obtain⟨k1,k2⟩:=(dK es key).1 n
    have Y:=k.below E;obtain⟨g,rfl⟩:=Y.bf (by simp only;omega);have c5:w5.cell? (aD q 1)=some (sL g 0 es.length (es.length+j.length)):=by rw[Y.box.cell];rfl
    have c6:=(bM (Y.arr g rfl).1 (i:=cLt es key) (by simp;omega)).2.1;rw[gD,List.getElem?_append_left k1,<-gD]at c6;have GE:((cLt es key:Nat):Int) <(es.length:Int):=by omega
    obtain⟨v,HV⟩:=exH ((es.getD (cLt es key) e0).2.1);rw[<-HV.out]at c6;rw[n];have N:=aA n;clear n k2 k M R c1;generalize cLt es key=i at *;go_wp2;refine bodyPost_ret (v:=.tuple #[.string v,.bool true]) (by simp[results,Tryz.results82,go_sem]) rfl ?_;refine⟨?_,D⟩;rw[PP.out,if_pos N.out,<-HV.out];rfl
   ·have mf:fM es key=false:=by simpa using n
    rw[mf];have N:=aA n;clear n k M R c1;go_wp2;refine bodyPost_ret (v:=.tuple #[.string ⟨#[]⟩,.bool false]) (by simp[results,Tryz.results82,go_sem]) rfl ?_;refine⟨?_,D⟩;rw[PP.out,if_neg N.out];rfl
abbrev t0:Int×Int:=(0,0)
theorem vW(l:List (Int×Int)):(cY l).size=l.length*2:=by unfold cY;rw[List.size_toArray,bY]
theorem aOF:(Tryz.prog.info? 92).map (fun i=>(i.zero,i.size,i.bytes))=some (some (.agg #[iV 0,iV 0]),2,16):=by kernel_rfl
theorem aDW:∃i,Tryz.prog.info? 92=some i/\i.size=2/\i.bytes=16/\i.zero=some (.agg #[iV 0,iV 0]):=by
 have h:=aOF;cases e:Tryz.prog.info? 92 with
 | none=>rw[e]at h;cases h
 | some i=>
  rw[e]at h;simp only[Option.map_some,sJ,Prod.mk.injEq]at h;exact⟨i,rfl,h.2.1,h.2.2,h.1⟩
theorem aGV(es a vs:List (Int×Int))(h:vs.length<=a.length):spl (es++a) es.length vs=es++vs++a.drop vs.length:=by
 unfold spl;rw[List.take_left,<-List.drop_drop,List.drop_left]
theorem aPP{need old:Nat}(h:need<=1000000)(a:old<need):Builtin.nextslicecap need old*16<=281474976710656:=growslice_fits (bytes:=16) (need:=need) (old:=old) (by omega) (by omega)
theorem lW(es:List (Int×Int)):∀v∈es.flatMap aW,v.oneCell'=true:=fun v b=>by
 obtain⟨e,_,a⟩:=List.mem_flatMap.1 b;simp only[aW,List.mem_cons,List.not_mem_nil,or_false]at a;rcases a with rfl | rfl<;>rfl
theorem wA(xs ys:List (Int×Int))(i:Nat):spl (xs.flatMap aW) (i*2) (ys.flatMap aW)=(spl xs i ys).flatMap aW:=by
 have c:∀(l:List (Int×Int)) (n:Nat),(l.flatMap aW).take (n*2)=(l.take n).flatMap aW:=by
  intro l;induction l with
  | nil=>intro n;simp
  | cons e l ih=>
   intro n;cases n with
   | zero=>simp
   | succ n=>
    have a:(aW e).length=2:=rfl;rw[List.flatMap_cons,List.take_succ_cons,List.flatMap_cons,List.take_append,a,List.take_of_length_le (by rw[a];omega),show(n+1)*2-2=n*2 by omega,ih]
 have b:∀(l:List (Int×Int)) (n:Nat),(l.flatMap aW).drop (n*2)=(l.drop n).flatMap aW:=by
  intro l;induction l with
  | nil=>intro n;simp
  | cons e l ih=>
   intro n;cases n with
   | zero=>simp
   | succ n=>
    have a:(aW e).length=2:=rfl;rw[List.flatMap_cons,List.drop_succ_cons,List.drop_append,a,List.drop_of_length_le (by rw[a];omega),show(n+1)*2-2=n*2 by omega,ih,List.nil_append]
 unfold spl;rw[c,bY,<-Nat.add_mul,b,List.flatMap_append,List.flatMap_append]
def Tsl(w:World)(v:Value)(es:List (Int×Int)):Prop:=
 (v=.slice none 0 0/\es=[])\/∃g o cap xs,v=sL g (o*2) es.length cap/\IsC w g (cY xs) 92/\o+es.length<=xs.length/\(xs.drop o).take es.length=es
theorem Tsl.cells{w:World}{g o:Nat}{xs es:List (Int×Int)}(h:IsC w g (cY xs) 92)(f:o+es.length<=xs.length)(he:(xs.drop o).take es.length=es):∀j v,(es.flatMap aW)[j]?=some v->w.cell? ((⟨g,o*2,none⟩:Addr).add j)=some v:=fun j v a=>by
 have d:(⟨g,o*2,none⟩:Addr).add j=⟨g,o*2+j,none⟩:=by unfold Addr.add;split<;>simp_all
 rw[d,h.cell];have b:spl (xs.flatMap aW) (o*2) (es.flatMap aW)=xs.flatMap aW:=by
  rw[wA];congr 1;unfold spl;rw[<-he,List.length_take,List.length_drop,List.append_assoc];rw[show min es.length (xs.length-o)=es.length by omega];rw[<-List.drop_drop,List.take_append_drop,List.take_append_drop]
 have e:j <(es.flatMap aW).length:=(List.getElem?_eq_some_iff.1 a).1;have:(cY xs)[o*2+j]?=(xs.flatMap aW)[o*2+j]?:=by simp[cY]
 rw[this,<-b];unfold spl;have c:((xs.flatMap aW).take (o*2)).length=o*2:=by
  rw[List.length_take,bY];omega
 rw[List.append_assoc,List.getElem?_append_right (by omega),c,show o*2+j-o*2=j by omega,List.getElem?_append_left e];exact a
theorem aKZ(m:Nat):Builtin.zeroCells #[iV 0,iV 0] m=((List.replicate m t0).flatMap aW).toArray:=by
 apply Array.toList_inj.1
 simp only[Builtin.zeroCells,List.size_toArray,List.length_cons,List.length_nil,Array.toList_map,Array.toList_range];induction m with
 | zero=>rfl
 | succ m ih=>
  have b:List.range ((m+1)*2)=List.range (m*2)++[m*2,m*2+1]:=by
   rw[show(m+1)*2=m*2+1+1 by omega,List.range_succ,List.range_succ];simp
  have a:List.replicate (m+1) t0=List.replicate m t0++[t0]:=List.replicate_succ';rw[a,List.flatMap_append,<-ih];simp only[Nat.zero_add,Nat.reduceAdd];rw[b,List.map_append];congr 1;simp only[List.map_cons,List.map_nil,show m*2 % 2=0 by omega,show(m*2+1) % 2=1 by omega];rfl
theorem aHP(a:Option Nat)(es b vs:List (Int×Int))(v:Value)(W:World)(m:∀g,a=some g->IsC W g (cY (es++b)) 92)(hn:a=none->es=[]/\b=[])(B:Tsl W v vs)(F:es.length+vs.length<=1000000)(G:es.length+b.length<=maxLen):
  ∃u W' a' junk',(∀ty,(Builtin.append_ #[56,56] ty #[.slice (adr a) es.length (es.length+b.length),v]).run Tryz.prog W=.ok u W')/\u=.slice (adr a') (es.length+vs.length) (es.length+vs.length+junk'.length)/\
   (∀g,a'=some g->IsC W' g (cY (es++vs++junk')) 92/\(a=some g\/W.heap.size<=g))/\(a'=none->es=[]/\vs=[]/\junk'=[])/\es.length+vs.length+junk'.length<=maxLen/\Frm (fun k=>a=some k) W W':=by
 obtain⟨c,l,h,r,D⟩:=aDW;have j:Src Tryz.prog c.size 56 v vs.length (vs.flatMap aW) W:=by
  rcases B with⟨rfl,rfl⟩ | ⟨x,o,i,xs,rfl,C,z,y⟩
  ·exact Src.ofNil W Tryz.underlying56 0
  ·exact Src.ofSlice W Tryz.underlying56 ⟨x,o*2,none⟩ vs.length i _ (by rw[bY,h]) (Tsl.cells C z y) (lW vs)
 by_cases p:vs.length<=b.length
 ·cases a with
  | none=>
   obtain⟨rfl,rfl⟩:=hn rfl;have s:vs=[]:=List.length_eq_zero_iff.1 (by simpa using p);subst s;refine⟨_,W,none,[],fun ty=>?_,rfl,fun g q=>(by cases q),fun _=>⟨rfl,rfl,rfl⟩,by simp,Frm.refl _ _⟩;have:=run_append_nothing (P:=Tryz.prog) W 56 56 ty 92 c Tryz.underlying56 l none 0 0 (nR _) v j;exact this
  | some g=>
   have d:=m g rfl;refine⟨_,_,some g,b.drop vs.length,fun ty=>run_append_room_src (P:=Tryz.prog) W 56 56 ty 92 c Tryz.underlying56 l g 0 es.length (es.length+b.length) v _ _ j (by omega)
    (fun k n=>by rw[bY]at n;rw[d.cell,h,Array.getElem?_eq_getElem (by rw[vW,lP];omega)];rfl) (fun k n=>d.frozen _),?_,fun g' q=>?_,fun q=>(by cases q),?_,?_⟩
   ·simp[adr];omega
   ·cases q
    refine⟨?_,.inl rfl⟩;have:=IsC.a8 (vs.flatMap aW) (cs:=(es++b).flatMap aW) (es.length*2) d (by rw[bY,bY,lP];omega);rw[wA,aGV _ _ _ p]at this;rw[h,Nat.zero_add];exact this
   ·simp;omega
   ·exact Frm.a8 (S:=fun k=>some g=some k) _ rfl _ _
 ·have E:(Builtin.firstCells c.size es.length (.slice (adr a) es.length (es.length+b.length))).run Tryz.prog W.drew=.ok (es.flatMap aW).toArray W.drew:=by
   cases a with
   | none=>
    obtain⟨rfl,rfl⟩:=hn rfl;exact run_firstCells_none (P:=Tryz.prog) W.drew c.size 0 0 0
   | some g=>
    have d:=m g rfl;exact run_firstCells_some (P:=Tryz.prog) W.drew c.size es.length ⟨g,0,none⟩ es.length _ (es.flatMap aW) (by rw[bY,h]) (by
     have:=Tsl.cells (w:=W.drew) (g:=g) (o:=0) (xs:=es++b) (es:=es) d.drew (by rw[lP];omega) (by simp)
     rw[Nat.zero_mul]at this;exact this)
  have A:=fun ty=>run_append_grow_src (P:=Tryz.prog) W 56 56 ty 92 c _ Tryz.underlying56 l D (adr a) es.length (es.length+b.length) (es.flatMap aW) E v vs.length (vs.flatMap aW) j (by omega) (by omega) (by rw[r];exact aPP (by omega) (by omega));have I:=grownCap_ge W (es.length+vs.length) (es.length+b.length) 92;have H:=grownCap_le_maxLen W (es.length+vs.length) (es.length+b.length) 92 (by simp[maxLen];omega);generalize grownCap W (es.length+vs.length) (es.length+b.length) 92=f at *;refine⟨_,_,some W.heap.size,List.replicate (f -(es.length+vs.length)) t0,A,?_,fun g q=>?_,fun q=>(by cases q),?_,?_⟩
  ·simp[adr];omega
  ·cases q
   refine⟨?_,.inr (nR _)⟩;have t:(Value.agg #[iV 0,iV 0]).cells=#[iV 0,iV 0]:=by kernel_rfl
   have:=IsC.new W.drew ((es.flatMap aW++vs.flatMap aW).toArray++Builtin.zeroCells (Value.agg #[iV 0,iV 0]).cells (f -(es.length+vs.length))) 92
   have e:cY (es++vs++List.replicate (f -(es.length+vs.length)) t0)=(es.flatMap aW++vs.flatMap aW).toArray++Builtin.zeroCells (Value.agg #[iV 0,iV 0]).cells (f -(es.length+vs.length)):=by
    rw[t,aKZ];simp[cY]
   rw[e];exact this
  ·simp;omega
  ·exact(Frm.drew _ W).trans (Frm.alloc _ _ _)
structure aPN(w w':World)(v:Value)(es:List (Int×Int)):Prop where
 ex:∃a junk,v=.slice (adr a) es.length (es.length+junk.length)/\(∀g,a=some g->w.heap.size<=g/\IsC w' g (cY (es++junk)) 92)/\(a=none->es=[]/\junk=[])/\es.length+junk.length<=maxLen
 below:Bl w w'
theorem aBM(v:Value)(es:List (Int×Int))(w:World)(y:Tsl w v es)(D:es.length<=100):
  Calls Tryz.prog 92 #[v] w fun e w'=>∃v',e=.returned v'/\aPN w w' v' es:=by
 obtain⟨i,m,t,r,A⟩:=aDW;rcases y with⟨rfl,rfl⟩ | ⟨g,o,a,xs,rfl,z,x,u⟩
 ·have p:=fun w=>Lib.run_eql_slice_nil (P:=Tryz.prog) w 56 92 none 0 0 0 0 Tryz.underlying56
  go_enter Tryz.func92,Tryz.ntmps92
  go_wp2
  go_ret
  exact⟨_,rfl,⟨none,[],by simp[adr],fun g q=>(by cases q),fun _=>⟨rfl,rfl⟩,by simp⟩,bQ _ _⟩
 ·have p:=fun w=>Lib.run_eql_slice_nil (P:=Tryz.prog) w 56 92 (some ⟨g,o*2,none⟩) es.length a 0 0 Tryz.underlying56
  have n:IsC (w.alloc (.cells #[] 92)) g (cY xs) 92:=z.alloc _;have h:=Src.ofSlice (P:=Tryz.prog) (w.alloc (.cells #[] 92)) (size:=i.size) (tx:=56) Tryz.underlying56 ⟨g,o*2,none⟩ es.length a (es.flatMap aW) (by rw[bY,t]) (Tsl.cells n x u) (lW es);have l:=(bQ w.heap.size w).alloc (nR _) (.cells #[] 92);by_cases s:es.length=0
  ·have c:es=[]:=List.length_eq_zero_iff.1 s
   subst c;have C:=fun w=>Lib.run_eql_slice_nil (P:=Tryz.prog) w 56 92 (some ⟨g,o*2,none⟩) 0 a 0 0 Tryz.underlying56;have d:=fun f=>run_append_room_src (P:=Tryz.prog) (w.alloc (.cells #[] 92)) 56 56 f 92 i Tryz.underlying56 m w.heap.size 0 0 0 _ 0 [] h (by omega) (fun j b=>by simp at b) (fun j b=>by simp at b);go_enter Tryz.func92,Tryz.ntmps92;go_wp2_with (at_builtin;refine cL rfl _ _ _ _ rfl (sL w.heap.size 0 0 0) (sL g (o*2) 0 a) rfl rfl _ _ (d _) ?_);go_ret;exact⟨_,rfl,⟨some w.heap.size,[],by simp[adr],fun g q=>(by cases q;exact⟨nR _,IsC.new _ _ _⟩),fun q=>(by cases q),by simp⟩,l⟩
  ·have B:(Builtin.firstCells i.size 0 (sL w.heap.size 0 0 0)).run Tryz.prog (w.alloc (.cells #[] 92)).drew=.ok ([]:List Value).toArray (w.alloc (.cells #[] 92)).drew:=by
    have:=run_firstCells_some (P:=Tryz.prog) (w.alloc (.cells #[] 92)).drew i.size 0 ⟨w.heap.size,0,none⟩ 0 0 [] (by simp) (fun j v b=>by simp at b)
    exact this
   have d:=fun f=>run_append_grow_src (P:=Tryz.prog) (w.alloc (.cells #[] 92)) 56 56 f 92 i _ Tryz.underlying56 m A (some ⟨w.heap.size,0,none⟩) 0 0 [] B _ es.length (es.flatMap aW) h (by omega) (by omega) (by rw[nextslicecap_zero (by omega),r];omega);go_enter Tryz.func92,Tryz.ntmps92;go_wp2_with (at_builtin;refine cL rfl _ _ _ _ rfl (sL w.heap.size 0 0 0) (sL g (o*2) es.length a) rfl rfl _ _ (d _) ?_);go_ret;have F:=grownCap_ge (w.alloc (.cells #[] 92)) es.length 0 92;have E:=grownCap_le_maxLen (w.alloc (.cells #[] 92)) es.length 0 92 (by simp[maxLen];omega);generalize grownCap (w.alloc (.cells #[] 92)) es.length 0 92=k at *;refine⟨_,rfl,⟨some (w.heap.size+1),List.replicate (k-es.length) t0,?_,fun g q=>?_,fun q=>(by cases q),?_⟩,?_⟩
   ·simp[adr];omega
   ·cases q
    refine⟨by omega,?_⟩;have:=IsC.new (w.alloc (.cells #[] 92)) ((es.flatMap aW).toArray++Builtin.zeroCells #[iV 0,iV 0] (k-es.length)) 92;rw[World.size_alloc]at this;rw[aKZ]at this |-;simpa [cY] using this.drew
   ·simp;omega
   ·exact(l.alloc (by simp) _).drew
variable {w w1 : World} {ρ : Nat -> Nat} {P : Nat} {A : Adr} {f : fZ} {J : List aS}
def oT(ρ:Nat->Nat)(g:Nat):Nat->Nat:=fun x=>if x=g then 2 else ρ x
theorem St.bx(h:St w ρ P A f J){g:Nat}{rs rj:List (Int×Int)}(hF:Frm (fun x=>x=A.ra) w w1)(m:IsC w1 g (cY (rs++rj)) 92)(v:g=A.ra\/ρ g=0)(E:rs.length+rj.length<=maxLen):
  St (w1.setCell (aD P 0) (sL g 0 rs.length (rs.length+rj.length))) (oT ρ g) P {A with ra:=g,rj:=rj} {f with r:=rs} J/\Mv (fun x=>x=g/\ρ x=0) w ρ (w1.setCell (aD P 0) (sL g 0 rs.length (rs.length+rj.length))) (oT ρ g):=by
 have b:ρ A.ra=2/\ρ P=1:=by obtain⟨_,_,_,i,_⟩:=h;exact⟨i.rr,i.rP⟩
 have u:∀x,ρ x≠0->x<w.heap.size:=by obtain⟨_,_,_,i,_⟩:=h;exact i.own
 have n:ρ g=2\/ρ g=0:=by
  rcases v with e | e
  ·left;rw[e];exact b.1
  ·exact .inr e
 have t:g≠P:=fun e=>by rw[e,b.2]at n;omega
 have k:Frm (fun x=>x=A.ra\/x=P) w (w1.setCell (aD P 0) (sL g 0 rs.length (rs.length+rj.length))):=(hF.wide fun x _ e=>.inl e).trans (Frm.set w1 (p:=aD P 0) (.inr rfl) _);have l:∀x,ρ x≠0->oT ρ g x=ρ x:=fun x a=>by
  unfold oT;split
  ·rename_i e;rw[e]at a |-;omega
  ·rfl
 have o:oT ρ g g=2:=by simp[oT]
 have j:∀{x r},ρ x=r->r≠2->r≠1->¬(x=A.ra\/x=P):=fun {x r} e i z q=>by
  rcases q with q | q
  ·rw[q,b.1]at e;exact i e.symm
  ·rw[q,b.2]at e;exact z e.symm
 refine⟨h.of k (fun x e=>?_) (fun x _ a=>l x fun e=>by rw[e]at a;exact aDX a) fun D c=>?_,k.wide (fun x _ e=>?_),fun x _ a=>?_⟩
 ·rcases e with e | e
  ·rw[e,b.1];exact aDY.2
  ·rw[e,b.2];exact vL.2
 ·have B:Kp (fun x=>x=A.ra\/x=P) w ρ (w1.setCell (aD P 0) (sL g 0 rs.length (rs.length+rj.length))) (oT ρ g):=⟨k,fun x _ a=>l x a.1,fun x a=>by
   by_cases e:x=g
   ·rw[e];have:=m.lt;simpa using this
   ·have:ρ x≠0:=by unfold oT at a;rw[if_neg e]at a;exact a
    exact lL (u x this) k.size⟩
  have s:IsC w1 P (dH A f D) 67:=c.hP.ae hF (fun e=>by have:=b.1;rw[<-e,b.2]at this;omega);refine c.gen (A':={A with ra:=g,rj:=rj}) (f':={f with r:=rs}) B (.inr ?_) (.inr ⟨m.set_ne _ t,o⟩) (.inl ⟨j c.rm (by omega) (by omega),rfl⟩) rfl (.inl ⟨j c.rc (by omega) (by omega),rfl⟩) rfl (.inl ⟨j c.rd (by omega) (by omega),rfl,rfl⟩) (fun x d a=>.inl ⟨a,rfl,rfl,fun y C=>?_⟩) c.no E c.ds
  ·have:=s.set 0 (sL g 0 rs.length (rs.length+rj.length))
   simpa [dH] using this
  ·rcases C with e | e
   ·exact j e (by unfold cK;omega) (by unfold cK;omega)
   ·exact j e (by unfold cI;omega) (by unfold cI;omega)
 ·left
  rcases e with e | e
  ·rw[e,b.1];omega
  ·rw[e,b.2];omega
 ·unfold oT
  split
  ·rename_i e
   rcases n with q | q
   ·rw[e,q]
   ·exact absurd ⟨e,by rw[e];exact q⟩ a
  ·rfl
theorem St.c6(h:St w ρ P A f J){i:Nat}{v:Int}{f':fZ}(hn:f'.r=f.r/\f'.c=f.c/\f'.m=f.m/\f'.n=f.n)(hc:∀jv,(dH A f jv).setIfInBounds i (iV v)=dH A f' jv):
  St (w.setCell (aD P i) (iV v)) ρ P A f' J/\Mv (fun _=>False) w ρ (w.setCell (aD P i) (iV v)) ρ:=by
 have g:ρ P=1:=by obtain⟨_,_,_,n,_⟩:=h;exact n.rP
 have k:Frm (fun x=>x=P) w (w.setCell (aD P i) (iV v)):=Frm.set (S:=fun x=>x=P) w (p:=aD P i) rfl _;refine⟨h.of k (fun x e=>by rw[e,g];exact vL.2) (fun _ _ _=>rfl) fun jv a=>?_,k.wide (fun x _ e=>.inl (by rw[e,g];omega)),fun _ _ _=>rfl⟩;have c:∀{x r},ρ x=r->r≠1->¬x=P:=fun {x r} e s q=>s (by rw[<-e,q,g]);obtain⟨j,z,l,m⟩:=hn;refine a.gen (f':=f') (Kp.same a k) (.inr ?_) (.inl ⟨c a.rr (by omega),rfl,by rw[j]⟩) (.inl ⟨c a.rm (by omega),rfl⟩) rfl (.inl ⟨c a.rc (by omega),z⟩) rfl (.inl ⟨c a.rd (by omega),rfl,by rw[l]⟩) (fun x d t=>.inl ⟨by rw[<-m];exact t,rfl,rfl,fun y u=>?_⟩) (fun b o=>a.no b (by rw[<-m];exact o)) (by rw[j];exact a.rs) (by rw[l];exact a.ds)
 ·have:=a.hP.set i (iV v)
  rw[hc]at this;exact this
 ·rcases u with e | e
  ·exact c e (by unfold cK;omega)
  ·exact c e (by unfold cI;omega)
theorem aHT(W:World)(x y:Int):(Instr.build 92 #[(0,iV x),(1,iV y)]).run Tryz.prog W=.ok (.agg #[iV x,iV y]) W:=by kernel_rfl
theorem aOM(W:World)(x y:Int):(Instr.buildSlice 56 1 #[(0,.agg #[iV x,iV y])]).run Tryz.prog W=.ok (sL W.heap.size 0 1 1) (W.alloc (.cells #[iV x,iV y] 92)):=by kernel_rfl
theorem aET{W:World}{g:Nat}{rs rj:List (Int×Int)}(x y:Int)(G:Nat)(j:IsC W g (cY (rs++rj)) 92)(i:IsC W G (cY [(x,y)]) 92)(m:rs.length<=100)(l:rs.length+rj.length<=maxLen):
  ∃W' g' rj',(∀ty,(Builtin.append_ #[56,56] ty #[sL g 0 rs.length (rs.length+rj.length),sL G 0 1 1]).run Tryz.prog W=.ok (sL g' 0 (rs++[(x,y)]).length ((rs++[(x,y)]).length+rj'.length)) W')/\IsC W' g' (cY (rs++[(x,y)]++rj')) 92/\(g'=g\/W.heap.size<=g')/\(rs++[(x,y)]).length+rj'.length<=maxLen/\Frm (fun k=>k=g) W W':=by
 obtain⟨u,W',b,rj',c,rfl,a,d,f,h⟩:=aHP (some g) rs rj [(x,y)] (sL G 0 1 1) W (fun g' e=>by cases e;exact j) (fun e=>by cases e) (.inr ⟨G,0,1,[(x,y)],rfl,i,by simp,by simp⟩) (by simp;omega) l;cases b with
 | none=>have:=(d rfl).2.1;simp at this
 | some g'=>
  refine⟨W',g',rj',fun ty=>?_,(a g' rfl).1,?_,by simpa using f,h.wide fun k _ e=>by cases e;rfl⟩
  ·have:=c ty
   simpa [adr] using this
  ·rcases(a g' rfl).2 with e | e
   ·left;cases e;rfl
   ·exact .inr e
theorem aHW{K:Int}(w:World)(ρ:Nat->Nat)(P:Nat)(A:Adr)(f:fZ)(J:List aS)(t:Nat)(h:St w ρ P A f J)(T:IC f)(U:Sz K f)(hK:K<=900000)(ht:t<f.r.length)(kz:f.r.length<16)(hn:0<=f.next/\f.next<65535):
  Calls Tryz.prog 85 #[pT P 0,iV (aB f t)] w fun e w'=>e=.returned (iV f.next)/\∃ρ' A',St w' ρ' P A' (cS f t) J/\Mv (fun _=>False) w ρ w' ρ':=by
 have h0:0<=(f.r.getD t (0,0)).2:=(T.rb _ (aQ ht)).1;obtain⟨d,hd⟩:=T.ao (aQ ht);have R:aB f t<f.c.length:=U.lt _ _ hd;have DC:((aB f t:Nat):Int) <(f.c.length:Int):=by omega
 have ei:(f.r.getD t (0,0)).2=((aB f t:Nat):Int):=by unfold aB;omega
 obtain⟨ja,jp,jj,u,hJ⟩:=id h;have O6:IntKind.i64.wrap (f.next+1)=f.next+1:=IntWalk.i64_in _ ⟨by omega,by omega⟩;have nn:=U.cb (aB f t);have hwc:IntKind.i64.wrap (cu f (aB f t)+1)=cu f (aB f t)+1:=IntWalk.i64_in _ ⟨by omega,by omega⟩;have c1:w.cell? (aD P 1)=some (iV f.next):=by rw[u.hP.cell];rfl
 have z1:=u.hP.frozen 1;obtain⟨p,j⟩:=h.c6 (i:=1) (v:=f.next+1) (f':={f with next:=f.next+1}) ⟨rfl,rfl,rfl,rfl⟩ (fun jv=>by simp[dH]);obtain⟨w1,C⟩:=exH (w.setCell (aD P 1) (iV (f.next+1)));rw[<-C.out]at p j;obtain⟨ja1,jp1,jj1,jd,qm⟩:=id p;obtain⟨m,k⟩:=exH (w1.alloc (.cells #[iV f.next,iV (aB f t)] 92));obtain⟨G,B⟩:=exH (w1.heap.size);have F:Bl w1 m:=by rw[k.out];exact(bQ w1.heap.size w1).alloc (nR _) _
 have X8:IsC m G (cY [(f.next,((aB f t:Nat):Int))]) 92:=by rw[k.out,B.out];exact IsC.new _ _ _
 have E:=p.below F;obtain⟨ja2,jp2,jj2,c,qn⟩:=id E;have qh:IsC m A.ra (cY (f.r++A.rj)) 92:=c.hr;obtain⟨D,a,I,L,W,N,Tp,Q⟩:=aET f.next ((aB f t:Nat):Int) G qh X8 (by omega) u.rs;have Sc:a=A.ra\/ρ a=0:=by
  rcases N with e | e
  ·exact .inl e
  ·right;exact Nat.eq_zero_of_not_pos fun q=>absurd (c.own a (by omega)) (by omega)
 obtain⟨o,z⟩:=E.bx Q W Sc Tp;have r2:m.cell? (aD P 0)=some (sL A.ra 0 f.r.length (f.r.length+A.rj.length)):=by rw[c.hP.cell];rfl
 have r1:w1.cell? (aD P 0)=some (sL A.ra 0 f.r.length (f.r.length+A.rj.length)):=by rw[jd.hP.cell];rfl
 have M:IsC D P _ _:=c.hP.ae Q (fun e=>by have:=c.rr;have s:=c.rP;rw[e]at s;have e3:ρ A.ra=2:=this;omega);have r3:D.cell? (aD P 0)=some (sL A.ra 0 f.r.length (f.r.length+A.rj.length)):=M.c rfl;have z3:=M.frozen 0;obtain⟨n,y⟩:=exH (D.setCell (aD P 0) (sL a 0 (f.r++[(f.next,((aB f t:Nat):Int))]).length ((f.r++[(f.next,((aB f t:Nat):Int))]).length+I.length)));rw[<-y.out]at o z;obtain⟨ja4,jp4,jj4,H,C0⟩:=id o;have m4:n.cell? (aD P 4)=some (sL A.c 0 f.c.length f.c.length):=by rw[H.hP.cell];rfl
 have jy:n.cell? (aD A.c (aB f t))=some (iV (cu f (aB f t))):=H.count R;have z4:n.frozen? (aD A.c (aB f t))=false:=H.hc.frozen _;obtain⟨g,V⟩:=o.setC (b:=aB f t) R (cu f (aB f t)+1);have O:setC {{f with next:=f.next+1} with r:=f.r++[(f.next,((aB f t:Nat):Int))]} (aB f t) (cu f (aB f t)+1)=cS f t:=by
  unfold cS setC;rw[ei]
 have l:Mv (fun _=>False) w ρ (n.setCell (aD A.c (aB f t)) (iV (cu f (aB f t)+1))) (oT ρ a):=by
  refine((((j.trans (Mv.aa F) (fun _ _ e=>e)).up (Y:=fun x=>x=a/\ρ x=0) (fun _ _ e=>e.elim)).trans z (fun _ _ e=>e)).trans V (fun _ _ e=>e.elim)).up fun x hx e=>?_;obtain⟨S,s⟩:=e;rcases N with q | q
  ·rw[S,q,u.rr]at s;omega
  ·have:=j.ae.size;have:=F.size;omega
 have IT:=aHT;have lj:=aOM;have Z:=aA (aI g l);have X:=aA (aI O L);have R4:=L;generalize Hf:cu f (aB f t)=qc at *;generalize He:aB f t=qb at *;have S:=C.out.symm;have s:=k.out.symm;have e3:=B.out.symm;have e4:=y.out.symm;simp only[lP,List.length_cons,List.length_nil,Nat.zero_add]at e4;clear g l O o z E p j V L C k B y;go_enter Tryz.func85,Tryz.ntmps85;go_wp2_with (at_builtin;refine cL rfl _ _ _ _ rfl (sL A.ra 0 f.r.length (f.r.length+A.rj.length)) (sL G 0 1 1) rfl rfl _ _ (R4 _) ?_);go_ret;obtain⟨g,l⟩:=Z.out;rw[X.out.1]at g;exact⟨rfl,_,⟨_,g⟩,l⟩
end Go.Proofs.YtmpagpeenjddgaaGreat
namespace Go.Proofs.YtmpagpeenjddgaaGreat
open Go.RowKit Go.Shelf Fo
variable{K:Int}{w:World}{f:fZ}
attribute [local go_sem] Oper.semAt_some
theorem UC.pos{h:Nat}{b:Nat}(u:UC h f b)(x:Nat):0<=cu f x:=by
 obtain⟨g,S,ht,E,a,c,-⟩:=u;rw[nP a];exact c.bb.pos x
theorem Sz.uk{g:fZ}(h:Sz K f)(u:UK f g)(e:∀x,0<=cu g x):Sz K g:=by
 have c:∀b d,g.n b=some d->f.n b=some d:=fun b d a=>by
  rcases u.n b with q | q
  ·rw[q]at a;exact a
  ·rw[q]at a;cases a
 exact⟨by rw[u.len];exact h.al,by rw[u.len];exact h.n8,by rw[u.len,u.m];exact h.m,fun b d a=>h.ai b d (c b d a),fun b d a=>by rw[u.len];exact h.lt b d (c b d a),fun i=>⟨e i,Int.le_trans (u.cu i) (h.cb i).2⟩,fun i=>by unfold co;rw[u.m];exact h.mb i⟩
theorem Frm.own{S:Nat->Prop}{w0 w':World}{row:Option Nat}(h:Frm S w0 w)(a:w.grownBy w' row)(hr:∀r,row=some r->w0.heap.size<=r):Frm S w0 w':=
 ⟨a.os.trans h.os,a.tape.trans h.tape,a.output.trans h.output,lT h.size a.size,fun k b c=>(a.block k (lL b h.size) fun e=>by have:=hr k e.symm;omega).trans (h.block k b c)⟩
structure UnP(w:World)(ρ:Nat->Nat)(P:Nat)(A:Adr)(J:List aS)(r:fZ×Int)(e:Ending)(w':World):Prop where
 e:e=.returned (iV r.2)
 ex:∃φ',St w' ρ P {A with φ:=φ'} r.1 J
 ae:Frm (fun k=>k=A.c\/k=A.m) w w'
theorem wD(F:Fence)(n:Nat)(hW:∀{f:FuncId} {args:Array Value} {w:World} {R:Ending->World->Prop} {m:Nat},Calls Tryz.prog f args w R->CallsIn F m Tryz.prog f args w R)(qu:∀k,F.fn k)(db:F.round=none)(hn:5<=n)
  (h:Nat) (w:World) (ρ:Nat->Nat) (P:Nat) (A:Adr) (f:fZ) (J:List aS) (b:Nat) (hS:St w ρ P A f J) (Z:Sz K f) (hK:K<=900000) (hu:UC h f b) (r:List Nat->fZ×Int) (d:Nd) (hd:f.n b=some d) (MR:r []=(dec f b,1))
  (fy:¬0<cu f b-1->∀(pre post:List Nat),kids d=pre++post->1<=(r pre).2/\(r pre).2<=600)
  (IH:¬0<cu f b-1->∀(pre:List Nat) (x:Nat) (post:List Nat),kids d=pre++x :: post->∀(W:World) (φ1:Nat->Option Nat),St W ρ P {A with φ:=φ1} (r pre).1 J->Calls Tryz.prog 109 #[pT P 0,iV (x:Int)] W (UnP W ρ P {A with φ:=φ1} J ((r (pre++[x])).1,(r (pre++[x])).2 -(r pre).2))):
  CallsIn F n Tryz.prog 109 #[pT P 0,iV b] w (UnP w ρ P A J (if 0<cu f b-1 then(dec f b,0)else(delN (r (kids d)).1 b,(r (kids d)).2))):=by
 have qe:1<=n:=by omega
 obtain⟨d',gy,d5,dw,iw,-⟩:=hu.live;rw[hd]at gy;cases gy;have DC:(b:Int) <(f.c.length:Int):=by omega
 have gh:d.2.length<=10:=Z.ai b d hd;obtain⟨ja,jp,jj,V,hJ⟩:=id hS;obtain⟨m3,m4,m5,m7⟩:=V.cells;have jy:=V.count d5;have D7:=V.hP.lt;have ap:=V.hc.lt;have FM:=V.hm.lt;have nn:=Z.cb b;have yt:IntKind.i64.wrap (cu f b-1)=cu f b-1:=IntWalk.i64_in _ ⟨by omega,by omega⟩;refine callsIn_of_wp_marks Tryz.func109 rfl (qu _) ?_ db;simp only[Tryz.ntmps109,List.size_toArray,List.length_cons,List.length_nil,Nat.reduceAdd,Nat.reduceSub,Array.replicate_succ,Array.replicate_zero,List.push_toArray,List.append_toArray,List.nil_append,List.cons_append];have fe:Bl w (w.alloc (.cells #[pT P 0] 61)):=(bQ _ w).alloc (nR _) _;have bw:=hS.below fe;have jd:=Boxed.new w 61 (pT P 0);have Q:(w.alloc (.cells #[pT P 0] 61)).heap.size=w.heap.size+1:=by simp
 have k1:=jd.cell;have au:w.heap.size≠A.c:=by omega
 obtain⟨w1,bx⟩:=eZ (w.alloc (.cells #[pT P 0] 61));rw[bx]at fe bw jd Q k1;obtain⟨ja1,jp1,jj1,Gn,qm⟩:=id bw;obtain⟨n3,n4,n5,n7⟩:=Gn.cells;have SJ:=Gn.count d5;have Sa:w1.frozen? (aD A.c b)=false:=Gn.hc.frozen b;obtain⟨O,ul⟩:=bw.setC (b:=b) d5 (cu f b-1);have gj:Boxed (w1.setCell (aD A.c b) (iV (cu f b-1))) w.heap.size 61 (pT P 0):=(aU _ _ au).trans jd;have k2:=gj.cell;obtain⟨I,de⟩:=eZ (w1.setCell (aD A.c b) (iV (cu f b-1)));have dz:Frm (fun k=>k=A.c\/k=A.m) w I:=by
  rw[<-de];exact(Frm.aa fe).trans (Frm.set w1 (p:=aD A.c b) (.inl rfl) _)
 have ju:I.heap.size=w.heap.size+1:=by rw[<-de,<-Q];exact cR (g:=A.c) [_] w1 b
 rw[de]at O ul gj k2;obtain⟨ja2,jp2,jj2,B,qn⟩:=id O;obtain⟨o3,o4,o5,o7⟩:=B.cells;have o4':I.cell? (aD P 4)=some (sL A.c 0 f.c.length f.c.length):=by
  rw[o4];simp[Fo.setC]
 have Ke:I.cell? (aD A.c b)=some (iV (cu f b-1)):=by
  rw[B.hc.cell];simp[dA,Fo.setC,d5]
 clear o4 o5 o7 n5 n7 m3 m4 m5 m7;by_cases E:0<cu f b-1
 ·rw[if_pos E]
  have IV:(0:Int)<cu f b-1:=E;gi_wp2;exact⟨iV 0,by simp[results,Tryz.f109,go_sem],⟨rfl,⟨A.φ,O⟩,dz⟩⟩
 ·rw[if_neg E]
  have IV:¬(0:Int)<cu f b-1:=E;obtain⟨q,hφ,yw,yu,junk,hN⟩:=B.nd b d hd;have ig:=B.hm.lookup b (by have:=Z.al;omega);rw[hφ]at ig;simp only[fB,Option.map_some]at ig;obtain⟨c,di⟩:=eZ (I.alloc (.cells #[iV 1] 2));obtain⟨a,II⟩:=eZ (I.heap.size);have fv:=bAl di;have vq:c.heap.size=a+1:=by rw[<-di,<-II];simp
  have Kt:Boxed c a 2 (iV 1):=by rw[<-di,<-II];exact Boxed.new _ _ _
  have lk:Boxed c w.heap.size 61 (pT P 0):=(fv.block _ (by omega)).trans gj;have v:=O.below fv;have sx:=hN.below fv;obtain⟨ja3,jp3,jj3,N,vd⟩:=id v;have p3:=N.cells.m3;have k3:=lk.cell;have TH:(Instr.lookup 64 (.map (some A.m)) (iV b) false).run Tryz.prog c=.ok (pT q 0) c:=by
   have:=N.hm.lookup b (by have:=Z.al;omega)
   rw[hφ]at this;simpa only[fB,Option.map_some] using this
  have ZG:c.cell? (aD a 0)=some (iV 1):=Kt.cell;have ny:=aA (aI Q (aI ju vq));clear ig Q ju vq;gi_wp2_with (gi_at_call 38;refine(kU F (n-1) (qu _) db _ _).mono ?_;rintro e w' ⟨rfl,rfl⟩);obtain⟨Q,ju,hw3n⟩:=ny.out;clear ny;have S:Bl c (c.alloc (.cells #[pT q 0] 93)):=(bQ _ c).alloc (nR _) _;have De:IsC (c.alloc (.cells #[pT q 0] 93)) c.heap.size #[pT q 0] 93:=IsC.new _ _ _;have Hm:(c.alloc (.cells #[pT q 0] 93)).heap.size=c.heap.size+1:=by simp
  generalize Nh:c.alloc (.cells #[pT q 0] 93)=u at *;have av:=v.below S;have Eg:=sx.below S;have ll:Boxed u w.heap.size 61 (pT P 0):=(S.block _ (by omega)).trans lk;have SU:Boxed u a 2 (iV 1):=(S.block _ (by omega)).trans Kt;have Do:q<u.heap.size:=Eg.box.lt;have Bq:d.1=2->∀e∈d.2,0<=e.2.2:=fun j e he=>by
   rcases iw with q | ⟨_,_,q⟩
   ·omega
   ·exact(q e he).1
  have kj:Frm (fun k=>k=A.c\/k=A.m) w u:=(dz.trans (Frm.aa fv)).trans (Frm.aa S);have Xr:w.heap.size<a:=by omega
  have Kd:A.c<w.heap.size:=ap;have hmA:A.m<w.heap.size:=FM;have G:q≠A.c/\q≠A.m/\q≠a/\∀g,A.α b=some g->g≠A.c/\g≠A.m/\g≠a:=by
   have z1:=N.rc;have z2:=N.rm;have z3:ρ a=0:=Nat.eq_zero_of_not_pos fun q=>absurd (B.own a (by omega)) (by omega);refine⟨fun e=>?_,fun e=>?_,fun e=>?_,fun g z=>⟨fun e=>?_,fun e=>?_,fun e=>?_⟩⟩
   ·rw[<-e,yw]at z1;unfold cK at z1;omega
   ·rw[<-e,yw]at z2;unfold cK at z2;omega
   ·rw[<-e,yw]at z3;unfold cK at z3;omega
   ·rw[<-e,yu g z]at z1;unfold cI at z1;omega
   ·rw[<-e,yu g z]at z2;unfold cI at z2;omega
   ·rw[<-e,yu g z]at z3;unfold cI at z3;omega
  have hρD:ρ a=0:=Nat.eq_zero_of_not_pos fun q=>absurd (B.own a (by omega)) (by omega);have Rn:St u ρ P {A with φ:=A.φ} (r []).1 J:=by rw[MR];exact av
  have Tf:(r []).2=1:=by rw[MR]
  clear v O bw N B Gn vd qn qm sx hN lk Kt k3 ZG p3 TH k2 k1 o3 o4' Ke SJ Sa n3 n4 av ul fe jd bx de di;refine jJ db qe (gf:=63) (lb:=#[pT c.heap.size 0]) rfl (qu _) (enters_of Tryz.func63 (by kernel_rfl) rfl)
   (jT F (n-1) (qu _) db (by omega) c.heap.size q d (A.α b) junk gh Bq u De Eg) KpC.trans (KpC.put De.lt Do (fun g e=>(Eg.arr g e).1.lt)) (bQ _ _) rfl
   (fun pre W=>(∃φ1,St W ρ P {A with φ:=φ1} (r pre).1 J)/\Frm (fun k=>k=A.c\/k=A.m\/k=a) u W/\Boxed W w.heap.size 61 (pT P 0)/\Boxed W a 2 (iV (r pre).2))
   ?_ ⟨⟨A.φ,Rn⟩,Frm.refl _ _,ll,by rw[Tf];exact SU⟩ ?_ ?_
  ·refine fun pre X Y row hs z ko=>?_
   obtain⟨⟨φ1,y⟩,j,s,t⟩:=hs;have BN:∀x,row=some x->u.heap.size<=x:=fun x e=>(ko x e).1;refine⟨⟨φ1,y.own z fun x e=>⟨by have:=BN x e;show x≠A.m;omega,(ko x e).2⟩⟩,j.own z BN,s.kept z fun e=>?_,t.kept z fun e=>?_⟩
   ·have:=BN _ e.symm;omega
   ·have:=BN _ e.symm;omega
  ·intro l pre x W hi mj
   gi_wp2
   refine⟨trivial,?_⟩;clear hi;rintro W ⟨⟨φ1,y⟩,j,s,t⟩;obtain⟨post,Lb⟩:=mj;have BH:kids d=pre++x :: post:=by rw[<-Lb];simp
   obtain⟨ao,be⟩:=fy E pre (x :: post) BH;obtain⟨C,it⟩:=fy E (pre++[x]) post (by rw[BH];simp);have NI:=IH E pre x post BH;have mo:=s.cell;have j8:=t.cell;have BD:=t.frozen;have MX:IntKind.i64.wrap ((r pre).2+((r (pre++[x])).2 -(r pre).2))=(r (pre++[x])).2:=by
    rw[IntWalk.i64_in _ ⟨by omega,by omega⟩];omega
   have YF:St W.drew ρ P {A with φ:=φ1} (r pre).1 J:=y.below (bQ W.heap.size W).drew;have HH:=aA (aI j (aI s t));have HB:=aA (aI ao (aI be (aI C it)));clear y j s t ao be C it Lb BH;gi_wp2;gi_region_with (refine⟨fun _=>by omega,(CallsIn.inRound l (hW (NI _ φ1 YF))).mono ?_⟩;rintro e i ⟨rfl,⟨φ2,h5⟩,U⟩;have q4:Boxed i a 2 (iV (r pre).2):=(U.block a HH.out.2.2.lt (fun e=>by rcases e with e | e<;>(have e':=e;simp only at e';omega))).trans HH.out.2.2;have q5:=q4.cell;have q6:=q4.frozen)
   all_goals (
    obtain⟨j,s,t⟩:=HH.out;have H:∀k,k<W.heap.size->k≠A.c->k≠A.m->k≠a->(i.setCell (aD a 0) (iV (r (pre++[x])).2)).heap[k]?=W.heap[k]?:=fun k hk e1 e2 e3=>(aU i _ e3).trans (U.block k hk fun e=>by rcases e with e | e;exact e1 e;exact e2 e);have bo:Frm (fun k=>k=A.c\/k=A.m\/k=a) u (i.setCell (aD a 0) (iV (r (pre++[x])).2)):=((j.trans (Frm.drew _ W)).trans (U.wide fun k _ e=>by rcases e with e | e;exact .inl e;exact .inr (.inl e))).trans (Frm.set i (p:=aD a 0) (.inr (.inr rfl)) _);have v:=h5.ae (w':=i.setCell (aD a 0) (iV (r (pre++[x])).2)) (Frm.set i (p:=aD a 0) hρD _);have Hl:u.heap.size<=W.heap.size:=j.size;have C:Boxed (i.setCell (aD a 0) (iV (r (pre++[x])).2)) w.heap.size 61 (pT P 0):=(H _ s.lt (by omega) (by omega) (by omega)).trans s;have E9:=q4.set (iV (r (pre++[x])).2);have aw:W.heap.size<=(i.setCell (aD a 0) (iV (r (pre++[x])).2)).heap.size:=lT U.size (Nat.le_of_eq (cR (g:=a) [_] i 0).symm);have mf:KeepsFrom u.heap.size W (i.setCell (aD a 0) (iV (r (pre++[x])).2)):=⟨aw,fun k o hk AY _=>(H k (Array.getElem?_eq_some_iff.1 AY).1 (by omega) (by omega) (by omega)).trans AY⟩;have yi:KpC c.heap.size q (A.α b) W (i.setCell (aD a 0) (iV (r (pre++[x])).2)):=⟨aw,H _ (by omega) (by omega) (by omega) (by omega),H q (by omega) G.1 G.2.1 G.2.2.1,fun g e=>H g (by have:=(Eg.arr g e).1.lt;omega) (G.2.2.2 g e).1 (G.2.2.2 g e).2.1 (G.2.2.2 g e).2.2⟩;have HF:=aA (aI mf (aI yi (aI v (aI bo (aI C E9)))));clear mf yi v bo C E9 H h5 U j s t q4 q5 q6;gi_wp2;obtain⟨mf,yi,v,bo,C,E9⟩:=HF.out;exact⟨mf,yi,⟨φ2,v⟩,bo,C,E9⟩)
  ·rintro D W hD ⟨⟨φ1,y⟩,j,s,t⟩ hK
   obtain⟨jae,jpe,jje,Rl,Xz⟩:=id y;obtain⟨L,GG,o6,T⟩:=Rl.hm.del b (by have:=Z.al;omega) 0;have p3:=Rl.cells.m3;have mo:=s.cell;have Vy:D≠A.m:=by omega
   have M:L.heap[D]?=some (.deferred (some [])):=(T.block D (Array.getElem?_eq_some_iff.1 hK).1 Vy).trans hK;have Gy:Boxed L a 2 (iV (r (kids d)).2):=(T.block a t.lt (by show a≠A.m;omega)).trans t;have Yo:=Gy.cell;obtain⟨cy,KD⟩:=y.del (b:=b) o6 T;have Gb:Frm (fun k=>k=A.c\/k=A.m) w L:=(kj.next j (fun x hx e=>by rcases e with e | e | e;exact .inl e;exact .inr e;omega)).next T (fun x _ e=>.inr e);have HF:=aA (aI cy (aI Gb M));clear cy KD Gb o6 T y j s t Rl Xz hK M Gy;gi_wp2;obtain⟨cy,Gb,M⟩:=HF.out;have bh:L.grownBy (L.putObj D (.deferred none)) (some D):=grownBy_putObj' L D _;refine⟨by simp,.inl ⟨_,_,rfl,run_takeDeferred M,?_⟩⟩;refine⟨iV (r (kids d)).2,by simp[results,Tryz.f109,go_sem],⟨rfl,⟨upd φ1 b none,?_⟩,Gb.own bh fun x e=>by cases e;have:=kj.size;omega⟩⟩;exact cy.own bh fun x e=>by cases e;exact⟨Vy,_,M,rfl⟩
theorem aGZ(q:K<=900000):∀(h:Nat) (w:World) (ρ:Nat->Nat) (P:Nat) (A:Adr) (f:fZ) (J:List aS) (b:Nat),St w ρ P A f J->Sz K f->UC h f b->
  Calls Tryz.prog 109 #[pT P 0,iV b] w (UnP w ρ P A J (unname h f b)):=by
 intro h;induction h with
 | zero=>
  intro w ρ P A f J b k j g;obtain⟨d,i,-,-,-,v⟩:=g.live;have y:=v rfl;have:=(callsIn_wide (n:=5)).1 (wD (K:=K) Fence.wide 5 (fun h=>callsIn_wide.2 h) (fun _=>trivial) rfl (nR _) 0 w ρ P A f J b k j q g (fun _=>(dec f b,1)) d i rfl (fun _ _ _ _=>⟨by show(1:Int)<=1;omega,by show(1:Int)<=600;omega⟩) (fun _ a x c e=>by rw[y]at e;simp at e));exact this
 | succ h ih=>
  intro w ρ P A f J b k j g;obtain⟨d,i,-,-,-,-⟩:=g.live;have:=(callsIn_wide (n:=5)).1 (wD (K:=K) Fence.wide 5 (fun h=>callsIn_wide.2 h) (fun _=>trivial) rfl (nR _) (h+1) w ρ P A f J b k j q g (fun l=>unL h l (dec f b,1)) d i rfl (fun m=>(g.next i m).2) (fun m a x c e W φ1 u=>by
   have p:=(g.next i m).1 a x c e;have o:Sz K (unL h a (dec f b,1)).1:=j.uk ((UK.dec f b).trans (UK.unL h a (dec f b,1))) (UC.pos p);have t:=ih W ρ P {A with φ:=φ1} _ J x u o p;have r:((unL h (a++[x]) (dec f b,1)).1,(unL h (a++[x]) (dec f b,1)).2 -(unL h a (dec f b,1)).2)=unname h (unL h a (dec f b,1)).1 x:=by
    rw[aKU];refine Prod.ext rfl ?_;simp only;omega
   show Calls _ _ _ _ (UnP W ρ P {A with φ:=φ1} J ((unL h (a++[x]) (dec f b,1)).1,(unL h (a++[x]) (dec f b,1)).2 -(unL h a (dec f b,1)).2))
   rw[r];exact t))
  have s:unname (h+1) f b=if 0<cu f b-1 then(dec f b,0)else(delN (unL h (kids d) (dec f b,1)).1 b,(unL h (kids d) (dec f b,1)).2):=by
   conv=>lhs;unfold unname
   rw[i];rfl
  rw[s];exact this
theorem kD{g:Nat}{xs:List (Int×Int)}(h:IsC w g (cY xs) 92){i:Nat}(a:i<xs.length):w.cell? (aD g (i*2))=some (iV (xs.getD i (0,0)).1)/\w.cell? (aD g (i*2+1))=some (iV (xs.getD i (0,0)).2):=by
 rw[h.cell,h.cell];exact lK xs a
theorem mR(x y a g2:Int)(B:Nat)(w:World)(g:IsC w B #[iV a,iV g2] 92):
  Calls Tryz.prog 108 #[.agg #[iV x,iV y],pT B 0] w fun e w'=>e=.returned (.bool (decide ((x,y)=(a,g2))))/\Bl w w':=by
 have b:=(bQ w.heap.size w).alloc (nR _) (.cells #[iV x,iV y] 92);have c:=g.alloc (.cells #[iV x,iV y] 92);have h:(w.alloc (.cells #[iV x,iV y] 92)).cell? (aD B 0)=some (iV a):=c.c rfl;have i:(w.alloc (.cells #[iV x,iV y] 92)).cell? (aD B 1)=some (iV g2):=c.c rfl;go_enter Tryz.func108,Tryz.ntmps108;by_cases d:x=a
 ·subst d
  by_cases f:y=g2
  ·subst f
   go_wp2
   go_ret
   exact⟨by simp,b⟩
  ·go_wp2
   go_ret
   exact⟨by simp[f],b⟩
 ·go_wp2
  go_ret
  exact⟨by simp[d],b⟩
theorem uS(g B l t:Nat)(rs rj:List (Int×Int))(a g2:Int)(w:World)(q:IsC w g (cY (rs++rj)) 92)(p:IsC w B #[iV a,iV g2] 92)(ht:t<rs.length)(he:rs.getD t (0,0)=(a,g2))(s:∀i,i<t->rs.getD i (0,0)≠(a,g2))(A:rs.length<=100):
  Calls Tryz.prog 128 #[sL g 0 rs.length l,.func (.func 108) #[] #[pT B 0]] w fun e w'=>e=.returned (iV t)/\Bl w w':=by
 go_enter Tryz.func128,Tryz.ntmps128
 go_wp2
 go_loopw [8] (fun i wr=>∃k:Nat,k<=t/\i=iV k/\Bl w wr) (fun i _=>t+1 -(intOf i).toNat)
 case atStart=>exact⟨0,Nat.zero_le _,rfl,bQ _ _⟩
 case round=>
  obtain⟨k,z,rfl,b⟩:=hrel;have C:(k:Int) <(rs.length:Int):=by omega
  have u:IsC wr g (cY (rs++rj)) 92:=q.of (b.block g q.lt);have n:IsC wr B #[iV a,iV g2] 92:=p.of (b.block B p.lt);obtain⟨h,j⟩:=kD u (i:=k) (by simp;omega);have o:(rs++rj).getD k (0,0)=rs.getD k (0,0):=by rw[gD,List.getElem?_append_left (by omega),<-gD]
  rw[o]at h j;obtain⟨⟨x,y⟩,c⟩:∃xy,rs.getD k (0,0)=xy:=⟨_,rfl⟩;rw[c]at h j;simp only at h j;clear o;by_cases r:k=t
  ·subst r
   rw[he]at c;cases c;go_wp2_with fail;refine(mR a g2 a g2 B wr n).mono ?_;rintro e v ⟨rfl,f⟩;have d:decide ((a,g2)=(a,g2))=true:=by simp
   rw[d];go_wp2;go_ret;exact⟨rfl,b.trans (f.mono b.size)⟩
  ·have m:=s k (by omega)
   rw[c]at m;go_wp2_with fail;refine(mR x y a g2 B wr n).mono ?_;rintro e v ⟨rfl,f⟩;have d:decide ((x,y)=(a,g2))=false:=by simpa using m
   rw[d];clear d m;go_wp2;go_roundw
   case rel=>exact⟨k+1,by omega,by go_num,b.trans (f.mono b.size)⟩
   case measure=>simp[intOf];omega
