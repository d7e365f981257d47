import Derived.Stop.RegionWithIn
import Derived.Test.YtmpagpeenjddgaaGreatHq13
import Derived.Test.YtmpagpeenjddgaaGreatFo28
set_option maxHeartbeats 9999999
set_option maxRecDepth 99999
set_option linter.all false
namespace Go.Proofs.YtmpagpeenjddgaaGreat
open Go.RowKit Fo
structure FdR(w:World)(A:Adr)(f:fZ)(key:ByteArray)(H:Nat)(r:OB)(h:Nat)(v:Value)(W:World):Prop where
 ex:∃q b lo hi,v=.pointer (some ⟨q,0,none⟩)/\A.φ b=some q/\Bl w W/\Ok f.n h b lo hi/\Fo.find f.n h b key=r
theorem aDQ{K:Int}(w:World)(ρ:Nat->Nat)(P:Nat)(A:Adr)(f:fZ)(J:List aR)(H b:Nat)(u t:OB)(key:ByteArray)(tu:St w ρ P A f J)(hI:IC f)(z:Ok f.n H b u t)(y:Sz K f):
  Calls Tryz.prog 82 #[.pointer (some ⟨P,0,none⟩),.int .i64 b,.string key] w fun e w'=>e=.returned (.tuple #[.string ((Fo.find f.n H b key).getD .empty),.bool (Fo.find f.n H b key).isSome])/\Bl w w':=by
 obtain⟨ja,jp,jj,I,hJ⟩:=id tu;have VJ:=y.al;have Nr:∀(W:World) (x q:Nat),Bl w W->A.φ x=some q->x<512->(Instr.lookup 64 (.map (some A.m)) (.int .i64 x) false).run Tryz.prog W=.ok (.pointer (some ⟨q,0,none⟩)) W:=fun W x q l hx hl=>by
  have:=(I.hm.of (l.block _ I.hm.lt)).lookup x hl
  rw[hx]at this;simpa only[eV,Option.map_some] using this
 have Oq:=aA Nr;clear Nr;have R:∀(h b:Nat) (u t:OB),Ok f.n h b u t->∃d,f.n b=some d:=fun h b u t n=>by
  cases h with
  | zero=>obtain⟨es,o,_⟩:=n;exact⟨_,o⟩
  | succ h=>obtain⟨es,o,_⟩:=n;exact⟨_,o⟩
 obtain⟨d,hd⟩:=R _ _ _ _ z;obtain⟨q0,Y,Vi,-,-,FZ⟩:=tu.ah hd;have eX:=y.lt b d hd;have m3:=I.cells.m3;have Kq:=Oq.out w b q0 (bQ _ _) Vi (by omega);obtain⟨m,xw,ol⟩:=mB (FdR w A f key H (Fo.find f.n H b key));have C1:=aA xw;have FN:=aA ol;have Dw:∃h0,FdR w A f key H (Fo.find f.n H b key) h0 (.pointer (some ⟨q0,0,none⟩)) w:=⟨H,q0,b,u,t,rfl,Vi,bQ _ _,z,rfl⟩;have WC:=aA R;generalize hr:Fo.find f.n H b key=r at *;clear xw ol R;have Dp:=I.hP.lt;go_enter Tryz.func82,Tryz.ntmps82;go_wp2;clear Kq;go_loopw [8] (fun v wr=>∃h,FdR w A f key H r h v wr) (fun v wr=>m v wr)
 case atStart=>exact Dw
 case round=>
  obtain⟨h',Aa⟩:=hrel;have UZ:=C1.out _ _ _ Aa;clear Aa Dw;obtain⟨h,Hh⟩:=exH (m u8 wr);rw[<-Hh.out]at UZ;obtain⟨q,b,u,t,rfl,hφ,l,z,U⟩:=UZ;have T:=tu.ae (w':=wr) (Frm.aa l);have n3:wr.cell? ⟨P,3,none⟩=some (.map (some A.m)):=(l.cell (p:=⟨P,3,none⟩) Dp).trans m3;cases h with
  | succ h=>
   obtain⟨es,s,ue,aw,e4,e5⟩:=z;obtain⟨q',j,o,-,-,k⟩:=T.ah s;rw[hφ]at o;cases o;have G:=y.ai b _ s;simp only at G;obtain⟨g,hg⟩:=k.bd (by simp only;exact List.length_pos_iff.2 aw);rw[hg]at k;have F:bI es key<es.length:=eJ key aw;obtain⟨c,C⟩:=exH (kd es (bI es key));obtain⟨dc,X⟩:=WC.out _ _ _ _ (e5 _ F).2;rw[<-C.out]at X;obtain⟨B,Z,Cz,-,-,-⟩:=T.ah X;have av:=y.lt c _ X;have qr:(es.getD (bI es key) e0).2.2=(c:Int):=by
    have:=hI.ar s F
    rw[C.out];unfold kd ch;omega
   have ud:Fo.find f.n h c key=r:=by
    rw[<-U,C.out];conv=>rhs;unfold Fo.find;rw[dH s]
   have N1:=(e5 _ F).2;rw[<-C.out]at N1;have O:=(bJ (k.arr g rfl).1 (i:=bI es key) (by simp;omega)).2.2;rw[gD,List.getElem?_append_left F,<-gD,qr]at O;have Q:∀W:World,Bl wr W->W.cell? ⟨P,3,none⟩=some (.map (some A.m))/\W.cell? ⟨q,1,none⟩=some (.slice (some ⟨g,0,none⟩) es.length (es.length+j.length))/\W.cell? ⟨g,bI es key*3+2,none⟩=some (.int .i64 c)/\(Instr.lookup 64 (.map (some A.m)) (.int .i64 c) false).run Tryz.prog W=.ok (.pointer (some ⟨B,0,none⟩)) W:=fun W L=>by
    have Mq:=k.below L;refine⟨(L.cell (p:=⟨P,3,none⟩) (lL Dp l.size)).trans n3,by rw[Mq.box.cell];rfl,(L.cell (p:=⟨g,bI es key*3+2,none⟩) (k.arr g rfl).1.lt).trans O,Oq.out W c B (l.trans (L.mono l.size)) Cz (by omega)⟩
   have rz:=aA Q;have Nj:((bI es key:Nat):Int) <(es.length:Int):=by omega
   have c0:wr.cell? ⟨q,0,none⟩=some (.int .i64 2):=by rw[k.box.cell];rfl
   have am:=Q wr (bQ _ _);clear Q O qr;generalize Mi:bI es key=i at *;have dw:=rz.out wr.drew (bQ wr.heap.size wr).drew;go_wp2;go_region_held3 (fun W=>W.cell? ⟨P,3,none⟩=some (.map (some A.m))/\W.cell? ⟨q,1,none⟩=some (.slice (some ⟨g,0,none⟩) es.length (es.length+j.length))/\W.cell? ⟨g,i*3+2,none⟩=some (.int .i64 c)/\(Instr.lookup 64 (.map (some A.m)) (.int .i64 c) false).run Tryz.prog W=.ok (.pointer (some ⟨B,0,none⟩)) W) (first | go_keep | exact dw | exact rz.out _ S) ((go_at_call 103;refine(iE q (2,es) (some g) j key _ (k.below (bQ _ _).drew) ue.a6 G).mono ?_;rintro e w1 ⟨rfl,E⟩;have S:Bl wr w1:=(bQ wr.heap.size wr).drew.trans E;obtain⟨x1,x2,x3,x4⟩:=rz.out _ S;simp only[Mi]));have D:=l.trans (S.mono l.size);have ms:FdR w A f key H r h (.pointer (some ⟨B,0,none⟩)) w1:=⟨B,c,_,_,rfl,Cz,D,N1,ud⟩;clear x1 x2 x3 x4 am dw;go_wp2;go_roundw
   case rel=>exact⟨h,ms⟩
   case measure=>
    have h1:=FN.out _ _ _ ms;have h2:=Hh.out;exact Nat.lt_of_le_of_lt h1 (by show h<m _ _;rw[<-h2];exact Nat.lt_succ_self h)
  | zero=>
   obtain⟨es,s,ue,yx⟩:=z;obtain⟨q',j,o,-,-,k⟩:=T.ah s;rw[hφ]at o;cases o;have G:=y.ai b _ s;simp only at G;obtain⟨a,ha⟩:∃a,a=A.α b:=⟨_,rfl⟩;rw[<-ha]at k;clear ha;have c0:wr.cell? ⟨q,0,none⟩=some (.int .i64 1):=by rw[k.box.cell];rfl
   have c1:wr.cell? ⟨q,1,none⟩=some (.slice (adr a) es.length (es.length+j.length)):=by rw[k.box.cell];rfl
   have M:NRd wr (.slice (adr a) es.length (es.length+j.length)) es:=k.dm.en;have Ev:r=if fI es key=true then some (es.getD (cLt es key) e0).2.1 else none:=by rw[<-U];unfold Fo.find;rw[dH s]
   have Ol:=aA Ev;clear U Ev hr;go_wp2_with fail;refine(iJ _ es key _ M (by omega) ue.a6).mono ?_;rintro e w5 ⟨E,he⟩;have Fh:e=.returned (.tuple #[.int .i64 (cLt es key),.bool (fI es key)]):=he;subst Fh;have D:=l.trans (E.mono l.size);by_cases n:fI es key=true
   ·obtain⟨k1,k2⟩:=(dK es key).1 n
    have V:=k.below E;obtain⟨g,rfl⟩:=V.bd (by simp only;omega);have c5:w5.cell? ⟨q,1,none⟩=some (.slice (some ⟨g,0,none⟩) es.length (es.length+j.length)):=by rw[V.box.cell];rfl
    have c6:=(bJ (V.arr g rfl).1 (i:=cLt es key) (by simp;omega)).2.1;rw[gD,List.getElem?_append_left k1,<-gD]at c6;have Fm:((cLt es key:Nat):Int) <(es.length:Int):=by omega
    obtain⟨v,HV⟩:=exH ((es.getD (cLt es key) e0).2.1);rw[<-HV.out]at c6;rw[n];have N:=aA n;clear n k2 k M c0 c1;generalize cLt es key=i at *;go_wp2;refine bodyPost_ret (v:=.tuple #[.string v,.bool true]) (by simp[results,Tryz.results82,go_sem]) rfl ?_;refine⟨?_,D⟩;rw[Ol.out,if_pos N.out,<-HV.out];rfl
   ·have ly:fI es key=false:=by simpa using n
    rw[ly];have N:=aA n;clear n k M c0 c1;go_wp2;refine bodyPost_ret (v:=.tuple #[.string ⟨#[]⟩,.bool false]) (by simp[results,Tryz.results82,go_sem]) rfl ?_;refine⟨?_,D⟩;rw[Ol.out,if_neg N.out];rfl
abbrev t0:Int×Int:=(0,0)
theorem vZ(l:List (Int×Int)):(cZ l).size=l.length*2:=by unfold cZ;rw[List.size_toArray,bV]
theorem aNO:(Tryz.prog.info? 92).map (fun i=>(i.zero,i.size,i.bytes))=some (some (.agg #[.int .i64 0,.int .i64 0]),2,16):=by kernel_rfl
theorem aDV:∃i,Tryz.prog.info? 92=some i/\i.size=2/\i.bytes=16/\i.zero=some (.agg #[.int .i64 0,.int .i64 0]):=by
 have h:=aNO;cases e:Tryz.prog.info? 92 with
 | none=>rw[e]at h;cases h
 | some i=>
  rw[e]at h;simp only[Option.map_some,sJ,Prod.mk.injEq]at h;exact⟨i,rfl,h.2.1,h.2.2,h.1⟩
theorem aGR(es a vs:List (Int×Int))(h:vs.length<=a.length):spl (es++a) es.length vs=es++vs++a.drop vs.length:=by
 unfold spl;rw[List.take_left,<-List.drop_drop,List.drop_left]
theorem aOV{need old:Nat}(h:need<=1000000)(a:old<need):Builtin.nextslicecap need old*16<=281474976710656:=growslice_fits (bytes:=16) (need:=need) (old:=old) (by omega) (by omega)
theorem lX(es:List (Int×Int)):∀v∈es.flatMap aU,v.oneCell'=true:=fun v b=>by
 obtain⟨e,_,a⟩:=List.mem_flatMap.1 b;simp only[aU,List.mem_cons,List.not_mem_nil,or_false]at a;rcases a with rfl | rfl<;>rfl
theorem wD(xs ys:List (Int×Int))(i:Nat):spl (xs.flatMap aU) (i*2) (ys.flatMap aU)=(spl xs i ys).flatMap aU:=by
 have c:∀(l:List (Int×Int)) (n:Nat),(l.flatMap aU).take (n*2)=(l.take n).flatMap aU:=by
  intro l;induction l with
  | nil=>intro n;simp
  | cons e l ih=>
   intro n;cases n with
   | zero=>simp
   | succ n=>
    have a:(aU e).length=2:=rfl;rw[List.flatMap_cons,List.take_succ_cons,List.flatMap_cons,List.take_append,a,List.take_of_length_le (by rw[a];omega),show(n+1)*2-2=n*2 by omega,ih]
 have b:∀(l:List (Int×Int)) (n:Nat),(l.flatMap aU).drop (n*2)=(l.drop n).flatMap aU:=by
  intro l;induction l with
  | nil=>intro n;simp
  | cons e l ih=>
   intro n;cases n with
   | zero=>simp
   | succ n=>
    have a:(aU e).length=2:=rfl;rw[List.flatMap_cons,List.drop_succ_cons,List.drop_append,a,List.drop_of_length_le (by rw[a];omega),show(n+1)*2-2=n*2 by omega,ih,List.nil_append]
 unfold spl;rw[c,bV,<-Nat.add_mul,b,List.flatMap_append,List.flatMap_append]
def Tsl(w:World)(v:Value)(es:List (Int×Int)):Prop:=
 (v=.slice none 0 0/\es=[])\/∃g o cap xs,v=.slice (some ⟨g,o*2,none⟩) es.length cap/\IsC w g (cZ xs) 92/\o+es.length<=xs.length/\(xs.drop o).take es.length=es
theorem Tsl.cells{w:World}{g o:Nat}{xs es:List (Int×Int)}(h:IsC w g (cZ xs) 92)(f:o+es.length<=xs.length)(he:(xs.drop o).take es.length=es):∀j v,(es.flatMap aU)[j]?=some v->w.cell? ((⟨g,o*2,none⟩:Addr).add j)=some v:=fun j v a=>by
 have d:(⟨g,o*2,none⟩:Addr).add j=⟨g,o*2+j,none⟩:=by unfold Addr.add;split<;>simp_all
 rw[d,h.cell];have b:spl (xs.flatMap aU) (o*2) (es.flatMap aU)=xs.flatMap aU:=by
  rw[wD];congr 1;unfold spl;rw[<-he,List.length_take,List.length_drop,List.append_assoc];rw[show min es.length (xs.length-o)=es.length by omega];rw[<-List.drop_drop,List.take_append_drop,List.take_append_drop]
 have e:j <(es.flatMap aU).length:=(List.getElem?_eq_some_iff.1 a).1;have:(cZ xs)[o*2+j]?=(xs.flatMap aU)[o*2+j]?:=by simp[cZ]
 rw[this,<-b];unfold spl;have c:((xs.flatMap aU).take (o*2)).length=o*2:=by
  rw[List.length_take,bV];omega
 rw[List.append_assoc,List.getElem?_append_right (by omega),c,show o*2+j-o*2=j by omega,List.getElem?_append_left e];exact a
theorem aKQ(m:Nat):Builtin.zeroCells #[.int .i64 0,.int .i64 0] m=((List.replicate m t0).flatMap aU).toArray:=by
 apply Array.toList_inj.1
 simp only[Builtin.zeroCells,List.size_toArray,List.length_cons,List.length_nil,Array.toList_map,Array.toList_range];induction m with
 | zero=>rfl
 | succ m ih=>
  have b:List.range ((m+1)*2)=List.range (m*2)++[m*2,m*2+1]:=by
   rw[show(m+1)*2=m*2+1+1 by omega,List.range_succ,List.range_succ];simp
  have a:List.replicate (m+1) t0=List.replicate m t0++[t0]:=List.replicate_succ';rw[a,List.flatMap_append,<-ih];simp only[Nat.zero_add,Nat.reduceAdd];rw[b,List.map_append];congr 1;simp only[List.map_cons,List.map_nil,show m*2 % 2=0 by omega,show(m*2+1) % 2=1 by omega];rfl
theorem aHO(a:Option Nat)(es b vs:List (Int×Int))(v:Value)(W:World)(l:∀g,a=some g->IsC W g (cZ (es++b)) 92)(hn:a=none->es=[]/\b=[])(A:Tsl W v vs)(E:es.length+vs.length<=1000000)(F:es.length+b.length<=maxLen):
  ∃u W' a' junk',(∀ty,(Builtin.append_ #[56,56] ty #[.slice (adr a) es.length (es.length+b.length),v]).run Tryz.prog W=.ok u W')/\u=.slice (adr a') (es.length+vs.length) (es.length+vs.length+junk'.length)/\
   (∀g,a'=some g->IsC W' g (cZ (es++vs++junk')) 92/\(a=some g\/W.heap.size<=g))/\(a'=none->es=[]/\vs=[]/\junk'=[])/\es.length+vs.length+junk'.length<=maxLen/\Frm (fun k=>a=some k) W W':=by
 obtain⟨c,j,h,p,C⟩:=aDV;have eS:Src Tryz.prog c.size 56 v vs.length (vs.flatMap aU) W:=by
  rcases A with⟨rfl,rfl⟩ | ⟨t,o,i,xs,rfl,B,y,x⟩
  ·exact Src.ofNil W Tryz.underlying56 0
  ·exact Src.ofSlice W Tryz.underlying56 ⟨t,o*2,none⟩ vs.length i _ (by rw[bV,h]) (Tsl.cells B y x) (lX vs)
 by_cases n:vs.length<=b.length
 ·cases a with
  | none=>
   obtain⟨rfl,rfl⟩:=hn rfl;have r:vs=[]:=List.length_eq_zero_iff.1 (by simpa using n);subst r;refine⟨_,W,none,[],fun ty=>?_,rfl,fun g q=>(by cases q),fun _=>⟨rfl,rfl,rfl⟩,by simp,Frm.refl _ _⟩;have:=run_append_nothing (P:=Tryz.prog) W 56 56 ty 92 c Tryz.underlying56 j none 0 0 (nR _) v eS;exact this
  | some g=>
   have d:=l g rfl;refine⟨_,_,some g,b.drop vs.length,fun ty=>run_append_room_src (P:=Tryz.prog) W 56 56 ty 92 c Tryz.underlying56 j g 0 es.length (es.length+b.length) v _ _ eS (by omega)
    (fun k m=>by rw[bV]at m;rw[d.cell,h,Array.getElem?_eq_getElem (by rw[vZ,lP];omega)];rfl) (fun k m=>d.frozen _),?_,fun g' q=>?_,fun q=>(by cases q),?_,?_⟩
   ·simp[adr];omega
   ·cases q
    refine⟨?_,.inl rfl⟩;have:=IsC.a7 (vs.flatMap aU) (cs:=(es++b).flatMap aU) (es.length*2) d (by rw[bV,bV,lP];omega);rw[wD,aGR _ _ _ n]at this;rw[h,Nat.zero_add];exact this
   ·simp;omega
   ·exact Frm.a7 (S:=fun k=>some g=some k) _ rfl _ _
 ·have D:(Builtin.firstCells c.size es.length (.slice (adr a) es.length (es.length+b.length))).run Tryz.prog W.drew=.ok (es.flatMap aU).toArray W.drew:=by
   cases a with
   | none=>
    obtain⟨rfl,rfl⟩:=hn rfl;exact run_firstCells_none (P:=Tryz.prog) W.drew c.size 0 0 0
   | some g=>
    have d:=l g rfl;exact run_firstCells_some (P:=Tryz.prog) W.drew c.size es.length ⟨g,0,none⟩ es.length _ (es.flatMap aU) (by rw[bV,h]) (by
     have:=Tsl.cells (w:=W.drew) (g:=g) (o:=0) (xs:=es++b) (es:=es) d.drew (by rw[lP];omega) (by simp)
     rw[Nat.zero_mul]at this;exact this)
  have z:=fun ty=>run_append_grow_src (P:=Tryz.prog) W 56 56 ty 92 c _ Tryz.underlying56 j C (adr a) es.length (es.length+b.length) (es.flatMap aU) D v vs.length (vs.flatMap aU) eS (by omega) (by omega) (by rw[p];exact aOV (by omega) (by omega));have H:=grownCap_ge W (es.length+vs.length) (es.length+b.length) 92;have G:=grownCap_le_maxLen W (es.length+vs.length) (es.length+b.length) 92 (by simp[maxLen];omega);generalize grownCap W (es.length+vs.length) (es.length+b.length) 92=f at *;refine⟨_,_,some W.heap.size,List.replicate (f -(es.length+vs.length)) t0,z,?_,fun g q=>?_,fun q=>(by cases q),?_,?_⟩
  ·simp[adr];omega
  ·cases q
   refine⟨?_,.inr (nR _)⟩;have s:(Value.agg #[.int .i64 0,.int .i64 0]).cells=#[.int .i64 0,.int .i64 0]:=by kernel_rfl
   have:=IsC.new W.drew ((es.flatMap aU++vs.flatMap aU).toArray++Builtin.zeroCells (Value.agg #[.int .i64 0,.int .i64 0]).cells (f -(es.length+vs.length))) 92
   have e:cZ (es++vs++List.replicate (f -(es.length+vs.length)) t0)=(es.flatMap aU++vs.flatMap aU).toArray++Builtin.zeroCells (Value.agg #[.int .i64 0,.int .i64 0]).cells (f -(es.length+vs.length)):=by
    rw[s,aKQ];simp[cZ]
   rw[e];exact this
  ·simp;omega
  ·exact(Frm.drew _ W).trans (Frm.alloc _ _ _)
structure aOT(w w':World)(v:Value)(es:List (Int×Int)):Prop where
 ex:∃a junk,v=.slice (adr a) es.length (es.length+junk.length)/\(∀g,a=some g->w.heap.size<=g/\IsC w' g (cZ (es++junk)) 92)/\(a=none->es=[]/\junk=[])/\es.length+junk.length<=maxLen
 below:Bl w w'
theorem aBM(v:Value)(es:List (Int×Int))(w:World)(u:Tsl w v es)(C:es.length<=100):
  Calls Tryz.prog 92 #[v] w fun e w'=>∃v',e=.returned v'/\aOT w w' v' es:=by
 obtain⟨i,l,r,n,y⟩:=aDV;rcases u with⟨rfl,rfl⟩ | ⟨g,o,a,xs,rfl,x,t,s⟩
 ·have m:=fun w=>Lib.run_eql_slice_nil (P:=Tryz.prog) w 56 92 none 0 0 0 0 Tryz.underlying56
  go_enter Tryz.func92,Tryz.ntmps92
  go_wp2
  go_ret
  exact⟨_,rfl,⟨none,[],by simp[adr],fun g q=>(by cases q),fun _=>⟨rfl,rfl⟩,by simp⟩,bQ _ _⟩
 ·have m:=fun w=>Lib.run_eql_slice_nil (P:=Tryz.prog) w 56 92 (some ⟨g,o*2,none⟩) es.length a 0 0 Tryz.underlying56
  have A:IsC (w.alloc (.cells #[] 92)) g (cZ xs) 92:=x.alloc _;have eS:=Src.ofSlice (P:=Tryz.prog) (w.alloc (.cells #[] 92)) (size:=i.size) (tx:=56) Tryz.underlying56 ⟨g,o*2,none⟩ es.length a (es.flatMap aU) (by rw[bV,r]) (Tsl.cells A t s) (lX es);have k:=(bQ w.heap.size w).alloc (nR _) (.cells #[] 92);by_cases p:es.length=0
  ·have c:es=[]:=List.length_eq_zero_iff.1 p
   subst c;have B:=fun w=>Lib.run_eql_slice_nil (P:=Tryz.prog) w 56 92 (some ⟨g,o*2,none⟩) 0 a 0 0 Tryz.underlying56;have d:=fun f=>run_append_room_src (P:=Tryz.prog) (w.alloc (.cells #[] 92)) 56 56 f 92 i Tryz.underlying56 l w.heap.size 0 0 0 _ 0 [] eS (by omega) (fun j b=>by simp at b) (fun j b=>by simp at b);go_enter Tryz.func92,Tryz.ntmps92;go_wp2_with (at_builtin;refine cL rfl _ _ _ _ rfl (.slice (some ⟨w.heap.size,0,none⟩) 0 0) (.slice (some ⟨g,o*2,none⟩) 0 a) rfl rfl _ _ (d _) ?_);go_ret;exact⟨_,rfl,⟨some w.heap.size,[],by simp[adr],fun g q=>(by cases q;exact⟨nR _,IsC.new _ _ _⟩),fun q=>(by cases q),by simp⟩,k⟩
  ·have z:(Builtin.firstCells i.size 0 (.slice (some ⟨w.heap.size,0,none⟩) 0 0)).run Tryz.prog (w.alloc (.cells #[] 92)).drew=.ok ([]:List Value).toArray (w.alloc (.cells #[] 92)).drew:=by
    have:=run_firstCells_some (P:=Tryz.prog) (w.alloc (.cells #[] 92)).drew i.size 0 ⟨w.heap.size,0,none⟩ 0 0 [] (by simp) (fun j v b=>by simp at b)
    exact this
   have d:=fun f=>run_append_grow_src (P:=Tryz.prog) (w.alloc (.cells #[] 92)) 56 56 f 92 i _ Tryz.underlying56 l y (some ⟨w.heap.size,0,none⟩) 0 0 [] z _ es.length (es.flatMap aU) eS (by omega) (by omega) (by rw[nextslicecap_zero (by omega),n];omega);go_enter Tryz.func92,Tryz.ntmps92;go_wp2_with (at_builtin;refine cL rfl _ _ _ _ rfl (.slice (some ⟨w.heap.size,0,none⟩) 0 0) (.slice (some ⟨g,o*2,none⟩) es.length a) rfl rfl _ _ (d _) ?_);go_ret;have E:=grownCap_ge (w.alloc (.cells #[] 92)) es.length 0 92;have D:=grownCap_le_maxLen (w.alloc (.cells #[] 92)) es.length 0 92 (by simp[maxLen];omega);generalize grownCap (w.alloc (.cells #[] 92)) es.length 0 92=h at *;refine⟨_,rfl,⟨some (w.heap.size+1),List.replicate (h-es.length) t0,?_,fun g q=>?_,fun q=>(by cases q),?_⟩,?_⟩
   ·simp[adr];omega
   ·cases q
    refine⟨by omega,?_⟩;have:=IsC.new (w.alloc (.cells #[] 92)) ((es.flatMap aU).toArray++Builtin.zeroCells #[.int .i64 0,.int .i64 0] (h-es.length)) 92;rw[World.size_alloc]at this;rw[aKQ]at this |-;simpa [cZ] using this.drew
   ·simp;omega
   ·exact(k.alloc (by simp) _).drew
variable {w w1 : World} {ρ : Nat -> Nat} {P : Nat} {A : Adr} {f : fZ} {J : List aR}
def oV(ρ:Nat->Nat)(g:Nat):Nat->Nat:=fun x=>if x=g then 2 else ρ x
theorem St.bw(h:St w ρ P A f J){g:Nat}{rs rj:List (Int×Int)}(hF:Frm (fun x=>x=A.ra) w w1)(m:IsC w1 g (cZ (rs++rj)) 92)(v:g=A.ra\/ρ g=0)(E:rs.length+rj.length<=maxLen):
  St (w1.setCell ⟨P,0,none⟩ (.slice (some ⟨g,0,none⟩) rs.length (rs.length+rj.length))) (oV ρ g) P {A with ra:=g,rj:=rj} {f with r:=rs} J/\Mv (fun x=>x=g/\ρ x=0) w ρ (w1.setCell ⟨P,0,none⟩ (.slice (some ⟨g,0,none⟩) rs.length (rs.length+rj.length))) (oV ρ g):=by
 have b:ρ A.ra=2/\ρ P=1:=by obtain⟨_,_,_,i,_⟩:=h;exact⟨i.rr,i.rP⟩
 have u:∀x,ρ x≠0->x<w.heap.size:=by obtain⟨_,_,_,i,_⟩:=h;exact i.own
 have n:ρ g=2\/ρ g=0:=by
  rcases v with e | e
  ·left;rw[e];exact b.1
  ·exact .inr e
 have t:g≠P:=fun e=>by rw[e,b.2]at n;omega
 have k:Frm (fun x=>x=A.ra\/x=P) w (w1.setCell ⟨P,0,none⟩ (.slice (some ⟨g,0,none⟩) rs.length (rs.length+rj.length))):=(hF.wide fun x _ e=>.inl e).trans (Frm.set w1 (p:=⟨P,0,none⟩) (.inr rfl) _);have l:∀x,ρ x≠0->oV ρ g x=ρ x:=fun x a=>by
  unfold oV;split
  ·rename_i e;rw[e]at a |-;omega
  ·rfl
 have o:oV ρ g g=2:=by simp[oV]
 have j:∀{x r},ρ x=r->r≠2->r≠1->¬(x=A.ra\/x=P):=fun {x r} e i z q=>by
  rcases q with q | q
  ·rw[q,b.1]at e;exact i e.symm
  ·rw[q,b.2]at e;exact z e.symm
 refine⟨h.of k (fun x e=>?_) (fun x _ a=>l x fun e=>by rw[e]at a;exact aDW a) fun D c=>?_,k.wide (fun x _ e=>?_),fun x _ a=>?_⟩
 ·rcases e with e | e
  ·rw[e,b.1];exact aDX.2
  ·rw[e,b.2];exact vK.2
 ·have B:Kp (fun x=>x=A.ra\/x=P) w ρ (w1.setCell ⟨P,0,none⟩ (.slice (some ⟨g,0,none⟩) rs.length (rs.length+rj.length))) (oV ρ g):=⟨k,fun x _ a=>l x a.1,fun x a=>by
   by_cases e:x=g
   ·rw[e];have:=m.lt;simpa using this
   ·have:ρ x≠0:=by unfold oV at a;rw[if_neg e]at a;exact a
    exact lL (u x this) k.size⟩
  have s:IsC w1 P (dG A f D) 67:=c.hP.ae hF (fun e=>by have:=b.1;rw[<-e,b.2]at this;omega);refine c.gen (A':={A with ra:=g,rj:=rj}) (f':={f with r:=rs}) B (.inr ?_) (.inr ⟨m.set_ne _ t,o⟩) (.inl ⟨j c.rm (by omega) (by omega),rfl⟩) rfl (.inl ⟨j c.rc (by omega) (by omega),rfl⟩) rfl (.inl ⟨j c.rd (by omega) (by omega),rfl,rfl⟩) (fun x d a=>.inl ⟨a,rfl,rfl,fun y C=>?_⟩) c.no E c.ds
  ·have:=s.set 0 (.slice (some ⟨g,0,none⟩) rs.length (rs.length+rj.length))
   simpa [dG] using this
  ·rcases C with e | e
   ·exact j e (by unfold cJ;omega) (by unfold cJ;omega)
   ·exact j e (by unfold cG;omega) (by unfold cG;omega)
 ·left
  rcases e with e | e
  ·rw[e,b.1];omega
  ·rw[e,b.2];omega
 ·unfold oV
  split
  ·rename_i e
   rcases n with q | q
   ·rw[e,q]
   ·exact absurd ⟨e,by rw[e];exact q⟩ a
  ·rfl
theorem St.c3(h:St w ρ P A f J){i:Nat}{v:Int}{f':fZ}(hn:f'.r=f.r/\f'.c=f.c/\f'.m=f.m/\f'.n=f.n)(hc:∀jv,(dG A f jv).setIfInBounds i (.int .i64 v)=dG A f' jv):
  St (w.setCell ⟨P,i,none⟩ (.int .i64 v)) ρ P A f' J/\Mv (fun _=>False) w ρ (w.setCell ⟨P,i,none⟩ (.int .i64 v)) ρ:=by
 have g:ρ P=1:=by obtain⟨_,_,_,n,_⟩:=h;exact n.rP
 have k:Frm (fun x=>x=P) w (w.setCell ⟨P,i,none⟩ (.int .i64 v)):=Frm.set (S:=fun x=>x=P) w (p:=⟨P,i,none⟩) rfl _;refine⟨h.of k (fun x e=>by rw[e,g];exact vK.2) (fun _ _ _=>rfl) fun jv a=>?_,k.wide (fun x _ e=>.inl (by rw[e,g];omega)),fun _ _ _=>rfl⟩;have c:∀{x r},ρ x=r->r≠1->¬x=P:=fun {x r} e s q=>s (by rw[<-e,q,g]);obtain⟨j,z,l,m⟩:=hn;refine a.gen (f':=f') (Kp.same a k) (.inr ?_) (.inl ⟨c a.rr (by omega),rfl,by rw[j]⟩) (.inl ⟨c a.rm (by omega),rfl⟩) rfl (.inl ⟨c a.rc (by omega),z⟩) rfl (.inl ⟨c a.rd (by omega),rfl,by rw[l]⟩) (fun x d t=>.inl ⟨by rw[<-m];exact t,rfl,rfl,fun y u=>?_⟩) (fun b o=>a.no b (by rw[<-m];exact o)) (by rw[j];exact a.rs) (by rw[l];exact a.ds)
 ·have:=a.hP.set i (.int .i64 v)
  rw[hc]at this;exact this
 ·rcases u with e | e
  ·exact c e (by unfold cJ;omega)
  ·exact c e (by unfold cG;omega)
theorem aHS(W:World)(x y:Int):(Instr.build 92 #[(0,.int .i64 x),(1,.int .i64 y)]).run Tryz.prog W=.ok (.agg #[.int .i64 x,.int .i64 y]) W:=by kernel_rfl
theorem aNV(W:World)(x y:Int):(Instr.buildSlice 56 1 #[(0,.agg #[.int .i64 x,.int .i64 y])]).run Tryz.prog W=.ok (.slice (some ⟨W.heap.size,0,none⟩) 1 1) (W.alloc (.cells #[.int .i64 x,.int .i64 y] 92)):=by kernel_rfl
theorem aEU{W:World}{g:Nat}{rs rj:List (Int×Int)}(x y:Int)(G:Nat)(j:IsC W g (cZ (rs++rj)) 92)(i:IsC W G (cZ [(x,y)]) 92)(m:rs.length<=100)(l:rs.length+rj.length<=maxLen):
  ∃W' g' rj',(∀ty,(Builtin.append_ #[56,56] ty #[.slice (some ⟨g,0,none⟩) rs.length (rs.length+rj.length),.slice (some ⟨G,0,none⟩) 1 1]).run Tryz.prog W=.ok (.slice (some ⟨g',0,none⟩) (rs++[(x,y)]).length ((rs++[(x,y)]).length+rj'.length)) W')/\IsC W' g' (cZ (rs++[(x,y)]++rj')) 92/\(g'=g\/W.heap.size<=g')/\(rs++[(x,y)]).length+rj'.length<=maxLen/\Frm (fun k=>k=g) W W':=by
 obtain⟨u,W',b,rj',c,rfl,a,d,f,h⟩:=aHO (some g) rs rj [(x,y)] (.slice (some ⟨G,0,none⟩) 1 1) W (fun g' e=>by cases e;exact j) (fun e=>by cases e) (.inr ⟨G,0,1,[(x,y)],rfl,i,by simp,by simp⟩) (by simp;omega) l;cases b with
 | none=>have:=(d rfl).2.1;simp at this
 | some g'=>
  refine⟨W',g',rj',fun ty=>?_,(a g' rfl).1,?_,by simpa using f,h.wide fun k _ e=>by cases e;rfl⟩
  ·have:=c ty
   simpa [adr] using this
  ·rcases(a g' rfl).2 with e | e
   ·left;cases e;rfl
   ·exact .inr e
theorem aHV{K:Int}(w:World)(ρ:Nat->Nat)(P:Nat)(A:Adr)(f:fZ)(J:List aR)(t:Nat)(h:St w ρ P A f J)(T:IC f)(U:Sz K f)(hK:K<=900000)(ht:t<f.r.length)(jy:f.r.length<16)(hn:0<=f.next/\f.next<65535):
  Calls Tryz.prog 85 #[.pointer (some ⟨P,0,none⟩),.int .i64 (aB f t)] w fun e w'=>e=.returned (.int .i64 f.next)/\∃ρ' A',St w' ρ' P A' (cU f t) J/\Mv (fun _=>False) w ρ w' ρ':=by
 have h0:0<=(f.r.getD t (0,0)).2:=(T.rb _ (aP ht)).1;obtain⟨d,hd⟩:=T.ao (aP ht);have S:aB f t<f.c.length:=U.lt _ _ hd;have Cq:((aB f t:Nat):Int) <(f.c.length:Int):=by omega
 have ed:(f.r.getD t (0,0)).2=((aB f t:Nat):Int):=by unfold aB;omega
 obtain⟨ja,jp,jj,u,hJ⟩:=id h;have OW:IntKind.i64.wrap (f.next+1)=f.next+1:=IntWalk.i64_in _ ⟨by omega,by omega⟩;have sa:=U.cb (aB f t);have Z2:IntKind.i64.wrap (cu f (aB f t)+1)=cu f (aB f t)+1:=IntWalk.i64_in _ ⟨by omega,by omega⟩;have c1:w.cell? ⟨P,1,none⟩=some (.int .i64 f.next):=by rw[u.hP.cell];rfl
 have z1:=u.hP.frozen 1;obtain⟨p,j⟩:=h.c3 (i:=1) (v:=f.next+1) (f':={f with next:=f.next+1}) ⟨rfl,rfl,rfl,rfl⟩ (fun jv=>by simp[dG]);obtain⟨w1,C⟩:=exH (w.setCell ⟨P,1,none⟩ (.int .i64 (f.next+1)));rw[<-C.out]at p j;obtain⟨ja1,jp1,jj1,ix,pr⟩:=id p;obtain⟨m,k⟩:=exH (w1.alloc (.cells #[.int .i64 f.next,.int .i64 (aB f t)] 92));obtain⟨G,B⟩:=exH (w1.heap.size);have F:Bl w1 m:=by rw[k.out];exact(bQ w1.heap.size w1).alloc (nR _) _
 have Wz:IsC m G (cZ [(f.next,((aB f t:Nat):Int))]) 92:=by rw[k.out,B.out];exact IsC.new _ _ _
 have E:=p.below F;obtain⟨ja2,jp2,jj2,c,pt⟩:=id E;have pn:IsC m A.ra (cZ (f.r++A.rj)) 92:=c.hr;obtain⟨D,a,I,L,W,N,S3,Q⟩:=aEU f.next ((aB f t:Nat):Int) G pn Wz (by omega) u.rs;have Ro:a=A.ra\/ρ a=0:=by
  rcases N with e | e
  ·exact .inl e
  ·right;exact Nat.eq_zero_of_not_pos fun q=>absurd (c.own a (by omega)) (by omega)
 obtain⟨o,y⟩:=E.bw Q W Ro S3;have r2:m.cell? ⟨P,0,none⟩=some (.slice (some ⟨A.ra,0,none⟩) f.r.length (f.r.length+A.rj.length)):=by rw[c.hP.cell];rfl
 have r1:w1.cell? ⟨P,0,none⟩=some (.slice (some ⟨A.ra,0,none⟩) f.r.length (f.r.length+A.rj.length)):=by rw[ix.hP.cell];rfl
 have M:IsC D P _ _:=c.hP.ae Q (fun e=>by have:=c.rr;have s:=c.rP;rw[e]at s;have e3:ρ A.ra=2:=this;omega);have r3:D.cell? ⟨P,0,none⟩=some (.slice (some ⟨A.ra,0,none⟩) f.r.length (f.r.length+A.rj.length)):=M.c rfl;have z3:=M.frozen 0;obtain⟨n,z⟩:=exH (D.setCell ⟨P,0,none⟩ (.slice (some ⟨a,0,none⟩) (f.r++[(f.next,((aB f t:Nat):Int))]).length ((f.r++[(f.next,((aB f t:Nat):Int))]).length+I.length)));rw[<-z.out]at o y;obtain⟨ja4,jp4,jj4,H,Cg⟩:=id o;have m4:n.cell? ⟨P,4,none⟩=some (.slice (some ⟨A.c,0,none⟩) f.c.length f.c.length):=by rw[H.hP.cell];rfl
 have kq:n.cell? ⟨A.c,aB f t,none⟩=some (.int .i64 (cu f (aB f t))):=H.count S;have z4:n.frozen? ⟨A.c,aB f t,none⟩=false:=H.hc.frozen _;obtain⟨g,V⟩:=o.setC (b:=aB f t) S (cu f (aB f t)+1);have O:setC {{f with next:=f.next+1} with r:=f.r++[(f.next,((aB f t:Nat):Int))]} (aB f t) (cu f (aB f t)+1)=cU f t:=by
  unfold cU setC;rw[ed]
 have l:Mv (fun _=>False) w ρ (n.setCell ⟨A.c,aB f t,none⟩ (.int .i64 (cu f (aB f t)+1))) (oV ρ a):=by
  refine((((j.trans (Mv.aa F) (fun _ _ e=>e)).up (Y:=fun x=>x=a/\ρ x=0) (fun _ _ e=>e.elim)).trans y (fun _ _ e=>e)).trans V (fun _ _ e=>e.elim)).up fun x hx e=>?_;obtain⟨R,s⟩:=e;rcases N with q | q
  ·rw[R,q,u.rr]at s;omega
  ·have:=j.ae.size;have:=F.size;omega
 have H0:=aHS;have lq:=aNV;have Z:=aA (aI g l);have X:=aA (aI O L);have RD:=L;generalize Gq:cu f (aB f t)=qc at *;generalize Gp:aB f t=qb at *;have R:=C.out.symm;have s:=k.out.symm;have e3:=B.out.symm;have e4:=z.out.symm;simp only[lP,List.length_cons,List.length_nil,Nat.zero_add]at e4;clear g l O o y E p j V L C k B z;go_enter Tryz.func85,Tryz.ntmps85;go_wp2_with (at_builtin;refine cL rfl _ _ _ _ rfl (.slice (some ⟨A.ra,0,none⟩) f.r.length (f.r.length+A.rj.length)) (.slice (some ⟨G,0,none⟩) 1 1) rfl rfl _ _ (RD _) ?_);go_ret;obtain⟨g,l⟩:=Z.out;rw[X.out.1]at g;exact⟨rfl,_,⟨_,g⟩,l⟩
end Go.Proofs.YtmpagpeenjddgaaGreat
namespace Go.Proofs.YtmpagpeenjddgaaGreat
open Go.RowKit Go.Shelf Fo
variable{K:Int}{w:World}{f:fZ}
attribute [local go_sem] Oper.semAt_some
theorem UC.pos{h:Nat}{b:Nat}(u:UC h f b)(x:Nat):0<=cu f x:=by
 obtain⟨g,S,ht,E,a,c,-⟩:=u;rw[nP a];exact c.a8.pos x
theorem Sz.uk{g:fZ}(h:Sz K f)(u:UK f g)(e:∀x,0<=cu g x):Sz K g:=by
 have c:∀b d,g.n b=some d->f.n b=some d:=fun b d a=>by
  rcases u.n b with q | q
  ·rw[q]at a;exact a
  ·rw[q]at a;cases a
 exact⟨by rw[u.len];exact h.al,by rw[u.len];exact h.n8,by rw[u.len,u.m];exact h.m,fun b d a=>h.ai b d (c b d a),fun b d a=>by rw[u.len];exact h.lt b d (c b d a),fun i=>⟨e i,Int.le_trans (u.cu i) (h.cb i).2⟩,fun i=>by unfold co;rw[u.m];exact h.mb i⟩
theorem Frm.own{S:Nat->Prop}{w0 w':World}{row:Option Nat}(h:Frm S w0 w)(a:w.grownBy w' row)(hr:∀r,row=some r->w0.heap.size<=r):Frm S w0 w':=
 ⟨a.os.trans h.os,a.tape.trans h.tape,a.output.trans h.output,lT h.size a.size,fun k b c=>(a.block k (lL b h.size) fun e=>by have:=hr k e.symm;omega).trans (h.block k b c)⟩
structure UnP(w:World)(ρ:Nat->Nat)(P:Nat)(A:Adr)(J:List aR)(r:fZ×Int)(e:Ending)(w':World):Prop where
 e:e=.returned (.int .i64 r.2)
 ex:∃φ',St w' ρ P {A with φ:=φ'} r.1 J
 ae:Frm (fun k=>k=A.c\/k=A.m) w w'
theorem wF(F:Fence)(n:Nat)(hW:∀{f:FuncId} {args:Array Value} {w:World} {R:Ending->World->Prop} {m:Nat},Calls Tryz.prog f args w R->CallsIn F m Tryz.prog f args w R)(qg:∀k,F.fn k)(dq:F.round=none)(hn:5<=n)
  (h:Nat) (w:World) (ρ:Nat->Nat) (P:Nat) (A:Adr) (f:fZ) (J:List aR) (b:Nat) (hS:St w ρ P A f J) (Z:Sz K f) (hK:K<=900000) (hu:UC h f b) (r:List Nat->fZ×Int) (d:Nd) (hd:f.n b=some d) (Gr:r []=(dec f b,1))
  (fx:¬0<cu f b-1->∀(pre post:List Nat),kids d=pre++post->1<=(r pre).2/\(r pre).2<=600)
  (IH:¬0<cu f b-1->∀(pre:List Nat) (x:Nat) (post:List Nat),kids d=pre++x :: post->∀(W:World) (φ1:Nat->Option Nat),St W ρ P {A with φ:=φ1} (r pre).1 J->Calls Tryz.prog 109 #[.pointer (some ⟨P,0,none⟩),.int .i64 (x:Int)] W (UnP W ρ P {A with φ:=φ1} J ((r (pre++[x])).1,(r (pre++[x])).2 -(r pre).2))):
  CallsIn F n Tryz.prog 109 #[.pointer (some ⟨P,0,none⟩),.int .i64 b] w (UnP w ρ P A J (if 0<cu f b-1 then(dec f b,0)else(delN (r (kids d)).1 b,(r (kids d)).2))):=by
 have pj:1<=n:=by omega
 obtain⟨d',ft,eX,ff,jh,-⟩:=hu.live;rw[hd]at ft;cases ft;have Cq:(b:Int) <(f.c.length:Int):=by omega
 have gd:d.2.length<=10:=Z.ai b d hd;obtain⟨ja,jp,jj,V,hJ⟩:=id hS;obtain⟨m3,m4,m5,m7⟩:=V.cells;have kq:=V.count eX;have Dp:=V.hP.lt;have av:=V.hc.lt;have DX:=V.hm.lt;have sa:=Z.cb b;have yc:IntKind.i64.wrap (cu f b-1)=cu f b-1:=IntWalk.i64_in _ ⟨by omega,by omega⟩;refine callsIn_of_wp_marks Tryz.func109 rfl (qg _) ?_ dq;simp only[Tryz.ntmps109,List.size_toArray,List.length_cons,List.length_nil,Nat.reduceAdd,Nat.reduceSub,Array.replicate_succ,Array.replicate_zero,List.push_toArray,List.append_toArray,List.nil_append,List.cons_append];have fe:Bl w (w.alloc (.cells #[.pointer (some ⟨P,0,none⟩)] 61)):=(bQ _ w).alloc (nR _) _;have cg:=hS.below fe;have ix:=Boxed.new w 61 (.pointer (some ⟨P,0,none⟩));have T:(w.alloc (.cells #[.pointer (some ⟨P,0,none⟩)] 61)).heap.size=w.heap.size+1:=by simp
 have k1:=ix.cell;have aw:w.heap.size≠A.c:=by omega
 obtain⟨w1,ci⟩:=eZ (w.alloc (.cells #[.pointer (some ⟨P,0,none⟩)] 61));rw[ci]at fe cg ix T k1;obtain⟨ja1,jp1,jj1,GT,pr⟩:=id cg;obtain⟨n3,n4,n5,n7⟩:=GT.cells;have RU:=GT.count eX;have Rm:w1.frozen? ⟨A.c,b,none⟩=false:=GT.hc.frozen b;obtain⟨O,ub⟩:=cg.setC (b:=b) eX (cu f b-1);have gi:Boxed (w1.setCell ⟨A.c,b,none⟩ (.int .i64 (cu f b-1))) w.heap.size 61 (.pointer (some ⟨P,0,none⟩)):=(aY _ _ aw).trans ix;have k2:=gi.cell;obtain⟨I,dh⟩:=eZ (w1.setCell ⟨A.c,b,none⟩ (.int .i64 (cu f b-1)));have d8:Frm (fun k=>k=A.c\/k=A.m) w I:=by
  rw[<-dh];exact(Frm.aa fe).trans (Frm.set w1 (p:=⟨A.c,b,none⟩) (.inl rfl) _)
 have ku:I.heap.size=w.heap.size+1:=by rw[<-dh,<-T];exact cT (g:=A.c) [_] w1 b
 rw[dh]at O ub gi k2;obtain⟨ja2,jp2,jj2,B,pt⟩:=id O;obtain⟨o3,o4,o5,o7⟩:=B.cells;have o4':I.cell? ⟨P,4,none⟩=some (.slice (some ⟨A.c,0,none⟩) f.c.length f.c.length):=by
  rw[o4];simp[Fo.setC]
 have KD:I.cell? ⟨A.c,b,none⟩=some (.int .i64 (cu f b-1)):=by
  rw[B.hc.cell];simp[dI,Fo.setC,eX]
 clear o4 o5 o7 n5 n7 m3 m4 m5 m7;by_cases E:0<cu f b-1
 ·rw[if_pos E]
  have RV:(0:Int)<cu f b-1:=E;gi_wp2;exact⟨.int .i64 0,by simp[results,Tryz.f109,go_sem],⟨rfl,⟨A.φ,O⟩,d8⟩⟩
 ·rw[if_neg E]
  have RV:¬(0:Int)<cu f b-1:=E;obtain⟨q,hφ,yg,ye,junk,hN⟩:=B.nd b d hd;have g8:=B.hm.lookup b (by have:=Z.al;omega);rw[hφ]at g8;simp only[eV,Option.map_some]at g8;obtain⟨c,du⟩:=eZ (I.alloc (.cells #[.int .i64 1] 2));obtain⟨a,Hq⟩:=eZ (I.heap.size);have fv:=bAl du;have vb:c.heap.size=a+1:=by rw[<-du,<-Hq];simp
  have KS:Boxed c a 2 (.int .i64 1):=by rw[<-du,<-Hq];exact Boxed.new _ _ _
  have ld:Boxed c w.heap.size 61 (.pointer (some ⟨P,0,none⟩)):=(fv.block _ (by omega)).trans gi;have v:=O.below fv;have so:=hN.below fv;obtain⟨ja3,jp3,jj3,N,uo⟩:=id v;have p3:=N.cells.m3;have k3:=ld.cell;have SS:(Instr.lookup 64 (.map (some A.m)) (.int .i64 b) false).run Tryz.prog c=.ok (.pointer (some ⟨q,0,none⟩)) c:=by
   have:=N.hm.lookup b (by have:=Z.al;omega)
   rw[hφ]at this;simpa only[eV,Option.map_some] using this
  have YB:c.cell? ⟨a,0,none⟩=some (.int .i64 1):=KS.cell;have ni:=aA (aI T (aI ku vb));clear g8 T ku vb;gi_wp2_with (gi_at_call 38;refine(kW F (n-1) (qg _) dq _ _).mono ?_;rintro e w' ⟨rfl,rfl⟩);obtain⟨T,ku,Y0⟩:=ni.out;clear ni;have Q:Bl c (c.alloc (.cells #[.pointer (some ⟨q,0,none⟩)] 93)):=(bQ _ c).alloc (nR _) _;have DN:IsC (c.alloc (.cells #[.pointer (some ⟨q,0,none⟩)] 93)) c.heap.size #[.pointer (some ⟨q,0,none⟩)] 93:=IsC.new _ _ _;have Gw:(c.alloc (.cells #[.pointer (some ⟨q,0,none⟩)] 93)).heap.size=c.heap.size+1:=by simp
  generalize M8:c.alloc (.cells #[.pointer (some ⟨q,0,none⟩)] 93)=u at *;have ax:=v.below Q;have EQ:=so.below Q;have lh:Boxed u w.heap.size 61 (.pointer (some ⟨P,0,none⟩)):=(Q.block _ (by omega)).trans ld;have Rg:Boxed u a 2 (.int .i64 1):=(Q.block _ (by omega)).trans KS;have DZ:q<u.heap.size:=EQ.box.lt;have Au:d.1=2->∀e∈d.2,0<=e.2.2:=fun j e he=>by
   rcases jh with q | ⟨_,_,q⟩
   ·omega
   ·exact(q e he).1
  have jt:Frm (fun k=>k=A.c\/k=A.m) w u:=(d8.trans (Frm.aa fv)).trans (Frm.aa Q);have Wn:w.heap.size<a:=by omega
  have Fg:A.c<w.heap.size:=av;have Zm:A.m<w.heap.size:=DX;have G:q≠A.c/\q≠A.m/\q≠a/\∀g,A.α b=some g->g≠A.c/\g≠A.m/\g≠a:=by
   have z1:=N.rc;have z2:=N.rm;have z3:ρ a=0:=Nat.eq_zero_of_not_pos fun q=>absurd (B.own a (by omega)) (by omega);refine⟨fun e=>?_,fun e=>?_,fun e=>?_,fun g z=>⟨fun e=>?_,fun e=>?_,fun e=>?_⟩⟩
   ·rw[<-e,yg]at z1;unfold cJ at z1;omega
   ·rw[<-e,yg]at z2;unfold cJ at z2;omega
   ·rw[<-e,yg]at z3;unfold cJ at z3;omega
   ·rw[<-e,ye g z]at z1;unfold cG at z1;omega
   ·rw[<-e,ye g z]at z2;unfold cG at z2;omega
   ·rw[<-e,ye g z]at z3;unfold cG at z3;omega
  have ZH:ρ a=0:=Nat.eq_zero_of_not_pos fun q=>absurd (B.own a (by omega)) (by omega);have Qz:St u ρ P {A with φ:=A.φ} (r []).1 J:=by rw[Gr];exact ax
  have Ss:(r []).2=1:=by rw[Gr]
  clear v O cg N B GT uo pt pr so hN ld KS k3 YB p3 SS k2 k1 o3 o4' KD RU Rm n3 n4 ax ub fe ix ci dh du;refine jM dq pj (gf:=63) (lb:=#[.pointer (some ⟨c.heap.size,0,none⟩)]) rfl (qg _) (enters_of Tryz.func63 (by kernel_rfl) rfl)
   (jX F (n-1) (qg _) dq (by omega) c.heap.size q d (A.α b) junk gd Au u DN EQ) KpC.trans (KpC.put DN.lt DZ (fun g e=>(EQ.arr g e).1.lt)) (bQ _ _) rfl
   (fun pre W=>(∃φ1,St W ρ P {A with φ:=φ1} (r pre).1 J)/\Frm (fun k=>k=A.c\/k=A.m\/k=a) u W/\Boxed W w.heap.size 61 (.pointer (some ⟨P,0,none⟩))/\Boxed W a 2 (.int .i64 (r pre).2))
   ?_ ⟨⟨A.φ,Qz⟩,Frm.refl _ _,lh,by rw[Ss];exact Rg⟩ ?_ ?_
  ·refine fun pre X Y row hs z ju=>?_
   obtain⟨⟨φ1,y⟩,j,s,t⟩:=hs;have Ar:∀x,row=some x->u.heap.size<=x:=fun x e=>(ju x e).1;refine⟨⟨φ1,y.own z fun x e=>⟨by have:=Ar x e;show x≠A.m;omega,(ju x e).2⟩⟩,j.own z Ar,s.kept z fun e=>?_,t.kept z fun e=>?_⟩
   ·have:=Ar _ e.symm;omega
   ·have:=Ar _ e.symm;omega
  ·intro l pre x W hi me
   gi_wp2
   refine⟨trivial,?_⟩;clear hi;rintro W ⟨⟨φ1,y⟩,j,s,t⟩;obtain⟨post,K9⟩:=me;have Al:kids d=pre++x :: post:=by rw[<-K9];simp
   obtain⟨au,bh⟩:=fx E pre (x :: post) Al;obtain⟨C,fw⟩:=fx E (pre++[x]) post (by rw[Al];simp);have Mk:=IH E pre x post Al;have o9:=s.cell;have jf:=t.cell;have Ah:=t.frozen;have L1:IntKind.i64.wrap ((r pre).2+((r (pre++[x])).2 -(r pre).2))=(r (pre++[x])).2:=by
    rw[IntWalk.i64_in _ ⟨by omega,by omega⟩];omega
   have XG:St W.drew ρ P {A with φ:=φ1} (r pre).1 J:=y.below (bQ W.heap.size W).drew;have HH:=aA (aI j (aI s t));have HB:=aA (aI au (aI bh (aI C fw)));clear y j s t au bh C fw K9 Al;gi_wp2;gi_region_with (refine⟨fun _=>by omega,(CallsIn.inRound l (hW (Mk _ φ1 XG))).mono ?_⟩;rintro e i ⟨rfl,⟨φ2,h5⟩,U⟩;have q4:Boxed i a 2 (.int .i64 (r pre).2):=(U.block a HH.out.2.2.lt (fun e=>by rcases e with e | e<;>(have e':=e;simp only at e';omega))).trans HH.out.2.2;have q5:=q4.cell;have q6:=q4.frozen)
   all_goals (
    obtain⟨j,s,t⟩:=HH.out;have H:∀k,k<W.heap.size->k≠A.c->k≠A.m->k≠a->(i.setCell ⟨a,0,none⟩ (.int .i64 (r (pre++[x])).2)).heap[k]?=W.heap[k]?:=fun k hk e1 e2 e3=>(aY i _ e3).trans (U.block k hk fun e=>by rcases e with e | e;exact e1 e;exact e2 e);have br:Frm (fun k=>k=A.c\/k=A.m\/k=a) u (i.setCell ⟨a,0,none⟩ (.int .i64 (r (pre++[x])).2)):=((j.trans (Frm.drew _ W)).trans (U.wide fun k _ e=>by rcases e with e | e;exact .inl e;exact .inr (.inl e))).trans (Frm.set i (p:=⟨a,0,none⟩) (.inr (.inr rfl)) _);have v:=h5.ae (w':=i.setCell ⟨a,0,none⟩ (.int .i64 (r (pre++[x])).2)) (Frm.set i (p:=⟨a,0,none⟩) ZH _);have Gv:u.heap.size<=W.heap.size:=j.size;have C:Boxed (i.setCell ⟨a,0,none⟩ (.int .i64 (r (pre++[x])).2)) w.heap.size 61 (.pointer (some ⟨P,0,none⟩)):=(H _ s.lt (by omega) (by omega) (by omega)).trans s;have Es:=q4.set (.int .i64 (r (pre++[x])).2);have ay:W.heap.size<=(i.setCell ⟨a,0,none⟩ (.int .i64 (r (pre++[x])).2)).heap.size:=lT U.size (Nat.le_of_eq (cT (g:=a) [_] i 0).symm);have ly:KeepsFrom u.heap.size W (i.setCell ⟨a,0,none⟩ (.int .i64 (r (pre++[x])).2)):=⟨ay,fun k o hk AL _=>(H k (Array.getElem?_eq_some_iff.1 AL).1 (by omega) (by omega) (by omega)).trans AL⟩;have xo:KpC c.heap.size q (A.α b) W (i.setCell ⟨a,0,none⟩ (.int .i64 (r (pre++[x])).2)):=⟨ay,H _ (by omega) (by omega) (by omega) (by omega),H q (by omega) G.1 G.2.1 G.2.2.1,fun g e=>H g (by have:=(EQ.arr g e).1.lt;omega) (G.2.2.2 g e).1 (G.2.2.2 g e).2.1 (G.2.2.2 g e).2.2⟩;have HF:=aA (aI ly (aI xo (aI v (aI br (aI C Es)))));clear ly xo v br C Es H h5 U j s t q4 q5 q6;gi_wp2;obtain⟨ly,xo,v,br,C,Es⟩:=HF.out;exact⟨ly,xo,⟨φ2,v⟩,br,C,Es⟩)
  ·rintro D W hD ⟨⟨φ1,y⟩,j,s,t⟩ hK
   obtain⟨jae,jpe,jje,Qx,Wu⟩:=id y;obtain⟨L,Fq,oa,S⟩:=Qx.hm.del b (by have:=Z.al;omega) 0;have p3:=Qx.cells.m3;have o9:=s.cell;have Uu:D≠A.m:=by omega
   have M:L.heap[D]?=some (.deferred (some [])):=(S.block D (Array.getElem?_eq_some_iff.1 hK).1 Uu).trans hK;have Gc:Boxed L a 2 (.int .i64 (r (kids d)).2):=(S.block a t.lt (by show a≠A.m;omega)).trans t;have Xo:=Gc.cell;obtain⟨de,Jg⟩:=y.del (b:=b) oa S;have GH:Frm (fun k=>k=A.c\/k=A.m) w L:=(jt.next j (fun x hx e=>by rcases e with e | e | e;exact .inl e;exact .inr e;omega)).next S (fun x _ e=>.inr e);have HF:=aA (aI de (aI GH M));clear de Jg GH oa S y j s t Qx Wu hK M Gc;gi_wp2;obtain⟨de,GH,M⟩:=HF.out;have bo:L.grownBy (L.putObj D (.deferred none)) (some D):=grownBy_putObj' L D _;refine⟨by simp,.inl ⟨_,_,rfl,run_takeDeferred M,?_⟩⟩;refine⟨.int .i64 (r (kids d)).2,by simp[results,Tryz.f109,go_sem],⟨rfl,⟨upd φ1 b none,?_⟩,GH.own bo fun x e=>by cases e;have:=jt.size;omega⟩⟩;exact de.own bo fun x e=>by cases e;exact⟨Uu,_,M,rfl⟩
theorem aGX(p:K<=900000):∀(h:Nat) (w:World) (ρ:Nat->Nat) (P:Nat) (A:Adr) (f:fZ) (J:List aR) (b:Nat),St w ρ P A f J->Sz K f->UC h f b->
  Calls Tryz.prog 109 #[.pointer (some ⟨P,0,none⟩),.int .i64 b] w (UnP w ρ P A J (unname h f b)):=by
 intro h;induction h with
 | zero=>
  intro w ρ P A f J b k j g;obtain⟨d,i,-,-,-,y⟩:=g.live;have t:=y rfl;have:=(callsIn_wide (n:=5)).1 (wF (K:=K) Fence.wide 5 (fun h=>callsIn_wide.2 h) (fun _=>trivial) rfl (nR _) 0 w ρ P A f J b k j p g (fun _=>(dec f b,1)) d i rfl (fun _ _ _ _=>⟨by show(1:Int)<=1;omega,by show(1:Int)<=600;omega⟩) (fun _ a x c e=>by rw[t]at e;simp at e));exact this
 | succ h ih=>
  intro w ρ P A f J b k j g;obtain⟨d,i,-,-,-,-⟩:=g.live;have:=(callsIn_wide (n:=5)).1 (wF (K:=K) Fence.wide 5 (fun h=>callsIn_wide.2 h) (fun _=>trivial) rfl (nR _) (h+1) w ρ P A f J b k j p g (fun l=>unL h l (dec f b,1)) d i rfl (fun m=>(g.next i m).2) (fun m a x c e W φ1 v=>by
   have o:=(g.next i m).1 a x c e;have s:Sz K (unL h a (dec f b,1)).1:=j.uk ((UK.dec f b).trans (UK.unL h a (dec f b,1))) (UC.pos o);have u:=ih W ρ P {A with φ:=φ1} _ J x v s o;have q:((unL h (a++[x]) (dec f b,1)).1,(unL h (a++[x]) (dec f b,1)).2 -(unL h a (dec f b,1)).2)=unname h (unL h a (dec f b,1)).1 x:=by
    rw[aKM];refine Prod.ext rfl ?_;simp only;omega
   show Calls _ _ _ _ (UnP W ρ P {A with φ:=φ1} J ((unL h (a++[x]) (dec f b,1)).1,(unL h (a++[x]) (dec f b,1)).2 -(unL h a (dec f b,1)).2))
   rw[q];exact u))
  have r:unname (h+1) f b=if 0<cu f b-1 then(dec f b,0)else(delN (unL h (kids d) (dec f b,1)).1 b,(unL h (kids d) (dec f b,1)).2):=by
   conv=>lhs;unfold unname
   rw[i];rfl
  rw[r];exact this
theorem kI{g:Nat}{xs:List (Int×Int)}(h:IsC w g (cZ xs) 92){i:Nat}(a:i<xs.length):w.cell? ⟨g,i*2,none⟩=some (.int .i64 (xs.getD i (0,0)).1)/\w.cell? ⟨g,i*2+1,none⟩=some (.int .i64 (xs.getD i (0,0)).2):=by
 rw[h.cell,h.cell];exact lN xs a
theorem mR(x y g1 g2:Int)(B:Nat)(w:World)(f:IsC w B #[.int .i64 g1,.int .i64 g2] 92):
  Calls Tryz.prog 108 #[.agg #[.int .i64 x,.int .i64 y],.pointer (some ⟨B,0,none⟩)] w fun e w'=>e=.returned (.bool (decide ((x,y)=(g1,g2))))/\Bl w w':=by
 have a:=(bQ w.heap.size w).alloc (nR _) (.cells #[.int .i64 x,.int .i64 y] 92);have b:=f.alloc (.cells #[.int .i64 x,.int .i64 y] 92);have c0:(w.alloc (.cells #[.int .i64 x,.int .i64 y] 92)).cell? ⟨B,0,none⟩=some (.int .i64 g1):=b.c rfl;have c1:(w.alloc (.cells #[.int .i64 x,.int .i64 y] 92)).cell? ⟨B,1,none⟩=some (.int .i64 g2):=b.c rfl;go_enter Tryz.func108,Tryz.ntmps108;by_cases c:x=g1
 ·subst c
  by_cases d:y=g2
  ·subst d
   go_wp2
   go_ret
   exact⟨by simp,a⟩
  ·go_wp2
   go_ret
   exact⟨by simp[d],a⟩
 ·go_wp2
  go_ret
  exact⟨by simp[c],a⟩
theorem uQ(g B h t:Nat)(rs rj:List (Int×Int))(g1 g2:Int)(w:World)(o:IsC w g (cZ (rs++rj)) 92)(n:IsC w B #[.int .i64 g1,.int .i64 g2] 92)(ht:t<rs.length)(he:rs.getD t (0,0)=(g1,g2))(q:∀i,i<t->rs.getD i (0,0)≠(g1,g2))(v:rs.length<=100):
  Calls Tryz.prog 128 #[.slice (some ⟨g,0,none⟩) rs.length h,.func (.func 108) #[] #[.pointer (some ⟨B,0,none⟩)]] w fun e w'=>e=.returned (.int .i64 t)/\Bl w w':=by
 go_enter Tryz.func128,Tryz.ntmps128
 go_wp2
 go_loopw [8] (fun i wr=>∃k:Nat,k<=t/\i=.int .i64 k/\Bl w wr) (fun i _=>t+1 -(intOf i).toNat)
 case atStart=>exact⟨0,Nat.zero_le _,rfl,bQ _ _⟩
 case round=>
  obtain⟨k,u,rfl,a⟩:=hrel;have z:(k:Int) <(rs.length:Int):=by omega
  have r:IsC wr g (cZ (rs++rj)) 92:=o.of (a.block g o.lt);have l:IsC wr B #[.int .i64 g1,.int .i64 g2] 92:=n.of (a.block B n.lt);obtain⟨c1,f⟩:=kI r (i:=k) (by simp;omega);have m:(rs++rj).getD k (0,0)=rs.getD k (0,0):=by rw[gD,List.getElem?_append_left (by omega),<-gD]
  rw[m]at c1 f;obtain⟨⟨x,y⟩,b⟩:∃xy,rs.getD k (0,0)=xy:=⟨_,rfl⟩;rw[b]at c1 f;simp only at c1 f;clear m;by_cases p:k=t
  ·subst p
   rw[he]at b;cases b;go_wp2_with fail;refine(mR g1 g2 g1 g2 B wr l).mono ?_;rintro e s ⟨rfl,d⟩;have c:decide ((g1,g2)=(g1,g2))=true:=by simp
   rw[c];go_wp2;go_ret;exact⟨rfl,a.trans (d.mono a.size)⟩
  ·have j:=q k (by omega)
   rw[b]at j;go_wp2_with fail;refine(mR x y g1 g2 B wr l).mono ?_;rintro e s ⟨rfl,d⟩;have c:decide ((x,y)=(g1,g2))=false:=by simpa using j
   rw[c];clear c j;go_wp2;go_roundw
   case rel=>exact⟨k+1,by omega,by go_num,a.trans (d.mono a.size)⟩
   case measure=>simp[intOf];omega
