import Derived.Stop.RegionWithIn
import Derived.Test.YtaahkgkdpnnhhaaGreatHq13
set_option maxHeartbeats 9999999
set_option maxRecDepth 99999
set_option linter.all false
namespace Go.Proofs.YtaahkgkdpnnhhaaGreat
open Go.RowKit Fo
structure FdR(w:World)(A:Adr)(f:fZ)(key:ByteArray)(H:Nat)(r:OB)(h:Nat)(v:Value)(W:World):Prop where
 ex:∃q b lo hi,v=.pointer (some ⟨q,0,none⟩)∧A.φ b=some q∧Bl w W∧Ok f.nodes h b lo hi∧Fo.find f.nodes h b key=r
theorem aCJ{K:Int}(w:World)(ρ:Nat→Nat)(P:Nat)(A:Adr)(f:fZ)(J:List aQ)(H b:Nat)(lo hi:OB)(key:ByteArray)(sd:St w ρ P A f J)(hI:IC f)(kg:Ok f.nodes H b lo hi)(hz:Sz K f):
  Calls Tryz.prog 100 #[.pointer (some ⟨P,0,none⟩),.int .i64 b,.string key] w fun e w'=>e=.returned (.tuple #[.string ((Fo.find f.nodes H b key).getD .empty),.bool (Fo.find f.nodes H b key).isSome])∧Bl w w':=by
 obtain⟨ja,jp,jj,hR,hJ⟩:=id sd;have Tx:=hz.n512;have Mp:∀(W:World) (x q:Nat),Bl w W→A.φ x=some q→x<512→(Instr.lookup 68 (.map (some A.m)) (.int .i64 x) false).run Tryz.prog W=.ok (.pointer (some ⟨q,0,none⟩)) W:=fun W x q hB hx hl=>by
  have:=(hR.hm.of (hB.block _ hR.hm.lt)).lookup x hl
  rw[hx]at this;simpa only[eQ,Option.map_some] using this
 have Nr:=aA Mp;clear Mp;have ed:∀(h b:Nat) (lo hi:OB),Ok f.nodes h b lo hi→∃d,f.nodes b=some d:=fun h b lo hi hk=>by
  cases h with
  | zero=>obtain⟨es,e1,_⟩:=hk;exact⟨_,e1⟩
  | succ h=>obtain⟨es,e1,_⟩:=hk;exact⟨_,e1⟩
 obtain⟨d,hd⟩:=ed _ _ _ _ kg;obtain⟨q0,junk0,UI,-,-,Ew⟩:=sd.getNode hd;have d5:=hz.lt b d hd;have m3:=hR.cells.m3;have Jt:=Nr.out w b q0 (bQ _ _) UI (by omega);obtain⟨m,vj,oa⟩:=lN (FdR w A f key H (Fo.find f.nodes H b key));have Cc:=aA vj;have En:=aA oa;have DQ:∃h0,FdR w A f key H (Fo.find f.nodes H b key) h0 (.pointer (some ⟨q0,0,none⟩)) w:=⟨H,q0,b,lo,hi,rfl,UI,bQ _ _,kg,rfl⟩;have Ui:=aA ed;generalize hr:Fo.find f.nodes H b key=r at *;clear vj oa ed;have DK:=hR.hP.lt;go_enter Tryz.func100,Tryz.ntmps100;go_wp2;clear Jt;go_loopw [8] (fun v wr=>∃h,FdR w A f key H r h v wr) (fun v wr=>m v wr)
 case atStart=>exact DQ
 case round=>
  obtain⟨h',Ey⟩:=hrel;have TI:=Cc.out _ _ _ Ey;clear Ey DQ;obtain⟨h,Hh⟩:=exH (m u8 wr);rw[←Hh.out]at TI;obtain⟨q,b,lo,hi,rfl,hφ,hB,kg,hf⟩:=TI;have hS:=sd.frm (w':=wr) (Frm.of_below hB);have n3:wr.cell? ⟨P,3,none⟩=some (.map (some A.m)):=(hB.cell (p:=⟨P,3,none⟩) DK).trans m3;cases h with
  | succ h=>
   obtain⟨es,af,qg,av,e4,e5⟩:=kg;obtain⟨q',junk,e1,-,-,hN⟩:=hS.getNode af;rw[hφ]at e1;cases e1;have ft:=hz.ent b _ af;simp only at ft;obtain⟨g,hg⟩:=hN.arrOf (by simp only;exact List.length_pos_iff.2 av);rw[hg]at hN;have je:bK es key<es.length:=eE key av;obtain⟨c,Hc⟩:=exH (kd es (bK es key));obtain⟨dc,jd⟩:=Ui.out _ _ _ _ (e5 _ je).2;rw[←Hc.out]at jd;obtain⟨qc,junkc,CZ,-,-,-⟩:=hS.getNode jd;have au:=hz.lt c _ jd;have ol:(es.getD (bK es key) e0).2.2=(c:Int):=by
    have:=hI.child_pos af je
    rw[Hc.out];unfold kd ch;omega
   have sq:Fo.find f.nodes h c key=r:=by
    rw[←hf,Hc.out];conv=>rhs;unfold Fo.find;rw[dF af]
   have M4:=(e5 _ je).2;rw[←Hc.out]at M4;have JY:=(bG (hN.arr g rfl).1 (i:=bK es key) (by simp;omega)).2.2;rw[gD,List.getElem?_append_left je,←gD,ol]at JY;have br:∀W:World,Bl wr W→W.cell? ⟨P,3,none⟩=some (.map (some A.m))∧W.cell? ⟨q,1,none⟩=some (.slice (some ⟨g,0,none⟩) es.length (es.length+junk.length))∧W.cell? ⟨g,bK es key*3+2,none⟩=some (.int .i64 c)∧(Instr.lookup 68 (.map (some A.m)) (.int .i64 c) false).run Tryz.prog W=.ok (.pointer (some ⟨qc,0,none⟩)) W:=fun W hW=>by
    have Lz:=hN.below hW;refine⟨(hW.cell (p:=⟨P,3,none⟩) (lL DK hB.size)).trans n3,by rw[Lz.box.cell];rfl,(hW.cell (p:=⟨g,bK es key*3+2,none⟩) (hN.arr g rfl).1.lt).trans JY,Nr.out W c qc (hB.trans (hW.mono hB.size)) CZ (by omega)⟩
   have lr:=aA br;have Mh:((bK es key:Nat):Int) <(es.length:Int):=by omega
   have c0:wr.cell? ⟨q,0,none⟩=some (.int .i64 2):=by rw[hN.box.cell];rfl
   have ak:=br wr (bQ _ _);clear br JY ol;generalize Lr:bK es key=i at *;have de:=lr.out wr.drew (bQ wr.heap.size wr).drew;go_wp2;go_region_held3 (fun W=>W.cell? ⟨P,3,none⟩=some (.map (some A.m))∧W.cell? ⟨q,1,none⟩=some (.slice (some ⟨g,0,none⟩) es.length (es.length+junk.length))∧W.cell? ⟨g,i*3+2,none⟩=some (.int .i64 c)∧(Instr.lookup 68 (.map (some A.m)) (.int .i64 c) false).run Tryz.prog W=.ok (.pointer (some ⟨qc,0,none⟩)) W) (first | go_keep | exact de | exact lr.out _ d9) ((go_at_call 121;refine(gX q (2,es) (some g) junk key _ (hN.below (bQ _ _).drew) qg.srt ft).mono ?_;rintro e w1 ⟨rfl,c9⟩;have d9:Bl wr w1:=(bQ wr.heap.size wr).drew.trans c9;obtain⟨x1,x2,x3,x4⟩:=lr.out _ d9;simp only[Lr]));have N8:=hB.trans (d9.mono hB.size);have lw:FdR w A f key H r h (.pointer (some ⟨qc,0,none⟩)) w1:=⟨qc,c,_,_,rfl,CZ,N8,M4,sq⟩;clear x1 x2 x3 x4 ak de;go_wp2;go_roundw
   case rel=>exact⟨h,lw⟩
   case measure=>
    have h1:=En.out _ _ _ lw;have h2:=Hh.out;exact Nat.lt_of_le_of_lt h1 (by show h<m _ _;rw[←h2];exact Nat.lt_succ_self h)
  | zero=>
   obtain⟨es,af,qg,xl⟩:=kg;obtain⟨q',junk,e1,-,-,hN⟩:=hS.getNode af;rw[hφ]at e1;cases e1;have ft:=hz.ent b _ af;simp only at ft;obtain⟨a,ha⟩:∃a,a=A.α b:=⟨_,rfl⟩;rw[←ha]at hN;clear ha;have c0:wr.cell? ⟨q,0,none⟩=some (.int .i64 1):=by rw[hN.box.cell];rfl
   have c1:wr.cell? ⟨q,1,none⟩=some (.slice (adr a) es.length (es.length+junk.length)):=by rw[hN.box.cell];rfl
   have Fc:NRd wr (.slice (adr a) es.length (es.length+junk.length)) es:=hN.esl.nrd;have ER:r=if fD es key=true then some (es.getD (cLt es key) e0).2.1 else none:=by rw[←hf];unfold Fo.find;rw[dF af]
   have Nn:=aA ER;clear hf ER hr;go_wp2_with fail;refine(iD _ es key _ Fc (by omega) qg.srt).mono ?_;rintro e w5 ⟨c9,he⟩;have E4:e=.returned (.tuple #[.int .i64 (cLt es key),.bool (fD es key)]):=he;subst E4;have N8:=hB.trans (c9.mono hB.size);by_cases hk:fD es key=true
   ·obtain⟨k1,k2⟩:=(dJ es key).1 hk
    have iy:=hN.below c9;obtain⟨g,rfl⟩:=iy.arrOf (by simp only;omega);have c5:w5.cell? ⟨q,1,none⟩=some (.slice (some ⟨g,0,none⟩) es.length (es.length+junk.length)):=by rw[iy.box.cell];rfl
    have c6:=(bG (iy.arr g rfl).1 (i:=cLt es key) (by simp;omega)).2.1;rw[gD,List.getElem?_append_left k1,←gD]at c6;have E8:((cLt es key:Nat):Int) <(es.length:Int):=by omega
    obtain⟨v,HV⟩:=exH ((es.getD (cLt es key) e0).2.1);rw[←HV.out]at c6;rw[hk];have HK:=aA hk;clear hk k2 hN Fc c0 c1;generalize cLt es key=i at *;go_wp2;refine bodyPost_ret (v:=.tuple #[.string v,.bool true]) (by simp[results,Tryz.results100,go_sem]) rfl ?_;refine⟨?_,N8⟩;rw[Nn.out,if_pos HK.out,←HV.out];rfl
   ·have lc:fD es key=false:=by simpa using hk
    rw[lc];have HK:=aA hk;clear hk hN Fc c0 c1;go_wp2;refine bodyPost_ret (v:=.tuple #[.string ⟨#[]⟩,.bool false]) (by simp[results,Tryz.results100,go_sem]) rfl ?_;refine⟨?_,N8⟩;rw[Nn.out,if_neg HK.out];rfl
abbrev t0:Int×Int:=(0,0)
theorem vN(l:List (Int×Int)):(cT l).size=l.length*2:=by unfold cT;rw[List.size_toArray,bL]
theorem aLK:(Tryz.prog.info? 77).map (fun i=>(i.zero,i.size,i.bytes))=some (some (.agg #[.int .i64 0,.int .i64 0]),2,16):=by kernel_rfl
theorem aCN:∃i,Tryz.prog.info? 77=some i∧i.size=2∧i.bytes=16∧i.zero=some (.agg #[.int .i64 0,.int .i64 0]):=by
 have h:=aLK;cases e:Tryz.prog.info? 77 with
 | none=>rw[e]at h;cases h
 | some i=>
  rw[e]at h;simp only[Option.map_some,sJ,Prod.mk.injEq]at h;exact⟨i,rfl,h.2.1,h.2.2,h.1⟩
theorem aEV(es junk vs:List (Int×Int))(h:vs.length≤junk.length):spl (es++junk) es.length vs=es++vs++junk.drop vs.length:=by
 unfold spl;rw[List.take_left,←List.drop_drop,List.drop_left]
theorem aMN{need old:Nat}(h:need≤1000000)(ho:old<need):Builtin.nextslicecap need old*16≤281474976710656:=growslice_fits (bytes:=16) (need:=need) (old:=old) (by omega) (by omega)
theorem lI(es:List (Int×Int)):∀v∈es.flatMap aT,v.oneCell'=true:=fun v hv=>by
 obtain⟨e,_,he⟩:=List.mem_flatMap.1 hv;simp only[aT,List.mem_cons,List.not_mem_nil,or_false]at he;rcases he with rfl | rfl<;>rfl
theorem vR(xs ys:List (Int×Int))(i:Nat):spl (xs.flatMap aT) (i*2) (ys.flatMap aT)=(spl xs i ys).flatMap aT:=by
 have tk:∀(l:List (Int×Int)) (n:Nat),(l.flatMap aT).take (n*2)=(l.take n).flatMap aT:=by
  intro l;induction l with
  | nil=>intro n;simp
  | cons e l ih=>
   intro n;cases n with
   | zero=>simp
   | succ n=>
    have l3:(aT e).length=2:=rfl;rw[List.flatMap_cons,List.take_succ_cons,List.flatMap_cons,List.take_append,l3,List.take_of_length_le (by rw[l3];omega),show(n+1)*2-2=n*2 by omega,ih]
 have dr:∀(l:List (Int×Int)) (n:Nat),(l.flatMap aT).drop (n*2)=(l.drop n).flatMap aT:=by
  intro l;induction l with
  | nil=>intro n;simp
  | cons e l ih=>
   intro n;cases n with
   | zero=>simp
   | succ n=>
    have l3:(aT e).length=2:=rfl;rw[List.flatMap_cons,List.drop_succ_cons,List.drop_append,l3,List.drop_of_length_le (by rw[l3];omega),show(n+1)*2-2=n*2 by omega,ih,List.nil_append]
 unfold spl;rw[tk,bL,←Nat.add_mul,dr,List.flatMap_append,List.flatMap_append]
def Tsl(w:World)(v:Value)(es:List (Int×Int)):Prop:=
 (v=.slice none 0 0∧es=[])∨∃g o cap xs,v=.slice (some ⟨g,o*2,none⟩) es.length cap∧IsC w g (cT xs) 77∧o+es.length≤xs.length∧(xs.drop o).take es.length=es
theorem Tsl.cells{w:World}{g o:Nat}{xs es:List (Int×Int)}(h:IsC w g (cT xs) 77)(hl:o+es.length≤xs.length)(he:(xs.drop o).take es.length=es):∀j v,(es.flatMap aT)[j]?=some v→w.cell? ((⟨g,o*2,none⟩:Addr).add j)=some v:=fun j v hj=>by
 have ub:(⟨g,o*2,none⟩:Addr).add j=⟨g,o*2+j,none⟩:=by unfold Addr.add;split<;>simp_all
 rw[ub,h.cell];have e1:spl (xs.flatMap aT) (o*2) (es.flatMap aT)=xs.flatMap aT:=by
  rw[vR];congr 1;unfold spl;rw[←he,List.length_take,List.length_drop,List.append_assoc];rw[show min es.length (xs.length-o)=es.length by omega];rw[←List.drop_drop,List.take_append_drop,List.take_append_drop]
 have xx:j <(es.flatMap aT).length:=(List.getElem?_eq_some_iff.1 hj).1;have:(cT xs)[o*2+j]?=(xs.flatMap aT)[o*2+j]?:=by simp[cT]
 rw[this,←e1];unfold spl;have ph:((xs.flatMap aT).take (o*2)).length=o*2:=by
  rw[List.length_take,bL];omega
 rw[List.append_assoc,List.getElem?_append_right (by omega),ph,show o*2+j-o*2=j by omega,List.getElem?_append_left xx];exact hj
theorem aII(m:Nat):Builtin.zeroCells #[.int .i64 0,.int .i64 0] m=((List.replicate m t0).flatMap aT).toArray:=by
 apply Array.toList_inj.1
 simp only[Builtin.zeroCells,List.size_toArray,List.length_cons,List.length_nil,Array.toList_map,Array.toList_range];induction m with
 | zero=>rfl
 | succ m ih=>
  have hr:List.range ((m+1)*2)=List.range (m*2)++[m*2,m*2+1]:=by
   rw[show(m+1)*2=m*2+1+1 by omega,List.range_succ,List.range_succ];simp
  have hp:List.replicate (m+1) t0=List.replicate m t0++[t0]:=List.replicate_succ';rw[hp,List.flatMap_append,←ih];simp only[Nat.zero_add,Nat.reduceAdd];rw[hr,List.map_append];congr 1;simp only[List.map_cons,List.map_nil,show m*2 % 2=0 by omega,show(m*2+1) % 2=1 by omega];rfl
theorem aFP(a:Option Nat)(es junk vs:List (Int×Int))(v:Value)(W:World)(ha:∀g,a=some g→IsC W g (cT (es++junk)) 77)(hn:a=none→es=[]∧junk=[])(hv:Tsl W v vs)(Ah:es.length+vs.length≤1000000)(hm:es.length+junk.length≤maxLen):
  ∃u W' a' junk',(∀ty,(Builtin.append_ #[55,55] ty #[.slice (adr a) es.length (es.length+junk.length),v]).run Tryz.prog W=.ok u W')∧u=.slice (adr a') (es.length+vs.length) (es.length+vs.length+junk'.length)∧
   (∀g,a'=some g→IsC W' g (cT (es++vs++junk')) 77∧(a=some g∨W.heap.size≤g))∧(a'=none→es=[]∧vs=[]∧junk'=[])∧es.length+vs.length+junk'.length≤maxLen∧Frm (fun k=>a=some k) W W':=by
 obtain⟨i0,hi,h3,Ai,hz⟩:=aCN;have dz:Src Tryz.prog i0.size 55 v vs.length (vs.flatMap aT) W:=by
  rcases hv with⟨rfl,rfl⟩ | ⟨gv,o,cap,xs,rfl,hx,hl,he⟩
  ·exact Src.ofNil W Tryz.underlying55 0
  ·exact Src.ofSlice W Tryz.underlying55 ⟨gv,o*2,none⟩ vs.length cap _ (by rw[bL,h3]) (Tsl.cells hx hl he) (lI vs)
 by_cases jt:vs.length≤junk.length
 ·cases a with
  | none=>
   obtain⟨rfl,rfl⟩:=hn rfl;have GQ:vs=[]:=List.length_eq_zero_iff.1 (by simpa using jt);subst GQ;refine⟨_,W,none,[],fun ty=>?_,rfl,fun g q=>(by cases q),fun _=>⟨rfl,rfl,rfl⟩,by simp,Frm.refl _ _⟩;have:=run_append_nothing (P:=Tryz.prog) W 55 55 ty 77 i0 Tryz.underlying55 hi none 0 0 (nR _) v dz;exact this
  | some g=>
   have hg:=ha g rfl;refine⟨_,_,some g,junk.drop vs.length,fun ty=>run_append_room_src (P:=Tryz.prog) W 55 55 ty 77 i0 Tryz.underlying55 hi g 0 es.length (es.length+junk.length) v _ _ dz (by omega)
    (fun k hk=>by rw[bL]at hk;rw[hg.cell,h3,Array.getElem?_eq_getElem (by rw[vN,lP];omega)];rfl) (fun k hk=>hg.frozen _),?_,fun g' q=>?_,fun q=>(by cases q),?_,?_⟩
   ·simp[adr];omega
   ·cases q
    refine⟨?_,.inl rfl⟩;have:=IsC.sets (vs.flatMap aT) (cs:=(es++junk).flatMap aT) (es.length*2) hg (by rw[bL,bL,lP];omega);rw[vR,aEV _ _ _ jt]at this;rw[h3,Nat.zero_add];exact this
   ·simp;omega
   ·exact Frm.sets (S:=fun k=>some g=some k) _ rfl _ _
 ·have sq:(Builtin.firstCells i0.size es.length (.slice (adr a) es.length (es.length+junk.length))).run Tryz.prog W.drew=.ok (es.flatMap aT).toArray W.drew:=by
   cases a with
   | none=>
    obtain⟨rfl,rfl⟩:=hn rfl;exact run_firstCells_none (P:=Tryz.prog) W.drew i0.size 0 0 0
   | some g=>
    have hg:=ha g rfl;exact run_firstCells_some (P:=Tryz.prog) W.drew i0.size es.length ⟨g,0,none⟩ es.length _ (es.flatMap aT) (by rw[bL,h3]) (by
     have:=Tsl.cells (w:=W.drew) (g:=g) (o:=0) (xs:=es++junk) (es:=es) hg.drew (by rw[lP];omega) (by simp)
     rw[Nat.zero_mul]at this;exact this)
  have hr:=fun ty=>run_append_grow_src (P:=Tryz.prog) W 55 55 ty 77 i0 _ Tryz.underlying55 hi hz (adr a) es.length (es.length+junk.length) (es.flatMap aT) sq v vs.length (vs.flatMap aT) dz (by omega) (by omega) (by rw[Ai];exact aMN (by omega) (by omega));have xr:=grownCap_ge W (es.length+vs.length) (es.length+junk.length) 77;have ph:=grownCap_le_maxLen W (es.length+vs.length) (es.length+junk.length) 77 (by simp[maxLen];omega);generalize grownCap W (es.length+vs.length) (es.length+junk.length) 77=gc at *;refine⟨_,_,some W.heap.size,List.replicate (gc -(es.length+vs.length)) t0,hr,?_,fun g q=>?_,fun q=>(by cases q),?_,?_⟩
  ·simp[adr];omega
  ·cases q
   refine⟨?_,.inr (nR _)⟩;have au:(Value.agg #[.int .i64 0,.int .i64 0]).cells=#[.int .i64 0,.int .i64 0]:=by kernel_rfl
   have:=IsC.new W.drew ((es.flatMap aT++vs.flatMap aT).toArray++Builtin.zeroCells (Value.agg #[.int .i64 0,.int .i64 0]).cells (gc -(es.length+vs.length))) 77
   have e:cT (es++vs++List.replicate (gc -(es.length+vs.length)) t0)=(es.flatMap aT++vs.flatMap aT).toArray++Builtin.zeroCells (Value.agg #[.int .i64 0,.int .i64 0]).cells (gc -(es.length+vs.length)):=by
    rw[au,aII];simp[cT]
   rw[e];exact this
  ·simp;omega
  ·exact(Frm.drew _ W).trans (Frm.alloc _ _ _)
structure aMK(w w':World)(v:Value)(es:List (Int×Int)):Prop where
 ex:∃a junk,v=.slice (adr a) es.length (es.length+junk.length)∧(∀g,a=some g→w.heap.size≤g∧IsC w' g (cT (es++junk)) 77)∧(a=none→es=[]∧junk=[])∧es.length+junk.length≤maxLen
 below:Bl w w'
theorem aAJ(v:Value)(es:List (Int×Int))(w:World)(hv:Tsl w v es)(ft:es.length≤100):
  Calls Tryz.prog 110 #[v] w fun e w'=>∃v',e=.returned v'∧aMK w w' v' es:=by
 obtain⟨i,hi,h3,Ai,hz⟩:=aCN;rcases hv with⟨rfl,rfl⟩ | ⟨g,o,cap,xs,rfl,hx,hl,he⟩
 ·have AU:=fun w=>Lib.run_eql_slice_nil (P:=Tryz.prog) w 55 77 none 0 0 0 0 Tryz.underlying55
  go_enter Tryz.func110,Tryz.ntmps110
  go_wp2
  go_ret
  exact⟨_,rfl,⟨none,[],by simp[adr],fun g q=>(by cases q),fun _=>⟨rfl,rfl⟩,by simp⟩,bQ _ _⟩
 ·have AU:=fun w=>Lib.run_eql_slice_nil (P:=Tryz.prog) w 55 77 (some ⟨g,o*2,none⟩) es.length cap 0 0 Tryz.underlying55
  have yl:IsC (w.alloc (.cells #[] 77)) g (cT xs) 77:=hx.alloc _;have dz:=Src.ofSlice (P:=Tryz.prog) (w.alloc (.cells #[] 77)) (size:=i.size) (tx:=55) Tryz.underlying55 ⟨g,o*2,none⟩ es.length cap (es.flatMap aT) (by rw[bL,h3]) (Tsl.cells yl hl he) (lI es);have hB:=(bQ w.heap.size w).alloc (nR _) (.cells #[] 77);by_cases h0:es.length=0
  ·have ee0:es=[]:=List.length_eq_zero_iff.1 h0
   subst ee0;have M1:=fun w=>Lib.run_eql_slice_nil (P:=Tryz.prog) w 55 77 (some ⟨g,o*2,none⟩) 0 cap 0 0 Tryz.underlying55;have hr:=fun ty=>run_append_room_src (P:=Tryz.prog) (w.alloc (.cells #[] 77)) 55 55 ty 77 i Tryz.underlying55 hi w.heap.size 0 0 0 _ 0 [] dz (by omega) (fun j hj=>by simp at hj) (fun j hj=>by simp at hj);go_enter Tryz.func110,Tryz.ntmps110;go_wp2_with (at_builtin;refine cH rfl _ _ _ _ rfl (.slice (some ⟨w.heap.size,0,none⟩) 0 0) (.slice (some ⟨g,o*2,none⟩) 0 cap) rfl rfl _ _ (hr _) ?_);go_ret;exact⟨_,rfl,⟨some w.heap.size,[],by simp[adr],fun g q=>(by cases q;exact⟨nR _,IsC.new _ _ _⟩),fun q=>(by cases q),by simp⟩,hB⟩
  ·have sq:(Builtin.firstCells i.size 0 (.slice (some ⟨w.heap.size,0,none⟩) 0 0)).run Tryz.prog (w.alloc (.cells #[] 77)).drew=.ok ([]:List Value).toArray (w.alloc (.cells #[] 77)).drew:=by
    have:=run_firstCells_some (P:=Tryz.prog) (w.alloc (.cells #[] 77)).drew i.size 0 ⟨w.heap.size,0,none⟩ 0 0 [] (by simp) (fun j v hj=>by simp at hj)
    exact this
   have hr:=fun ty=>run_append_grow_src (P:=Tryz.prog) (w.alloc (.cells #[] 77)) 55 55 ty 77 i _ Tryz.underlying55 hi hz (some ⟨w.heap.size,0,none⟩) 0 0 [] sq _ es.length (es.flatMap aT) dz (by omega) (by omega) (by rw[nextslicecap_zero (by omega),Ai];omega);go_enter Tryz.func110,Tryz.ntmps110;go_wp2_with (at_builtin;refine cH rfl _ _ _ _ rfl (.slice (some ⟨w.heap.size,0,none⟩) 0 0) (.slice (some ⟨g,o*2,none⟩) es.length cap) rfl rfl _ _ (hr _) ?_);go_ret;have xr:=grownCap_ge (w.alloc (.cells #[] 77)) es.length 0 77;have ph:=grownCap_le_maxLen (w.alloc (.cells #[] 77)) es.length 0 77 (by simp[maxLen];omega);generalize grownCap (w.alloc (.cells #[] 77)) es.length 0 77=gc at *;refine⟨_,rfl,⟨some (w.heap.size+1),List.replicate (gc-es.length) t0,?_,fun g q=>?_,fun q=>(by cases q),?_⟩,?_⟩
   ·simp[adr];omega
   ·cases q
    refine⟨by omega,?_⟩;have:=IsC.new (w.alloc (.cells #[] 77)) ((es.flatMap aT).toArray++Builtin.zeroCells #[.int .i64 0,.int .i64 0] (gc-es.length)) 77;rw[World.size_alloc]at this;rw[aII]at this ⊢;simpa [cT] using this.drew
   ·simp;omega
   ·exact(hB.alloc (by simp) _).drew
variable {w w1 : World} {ρ : Nat → Nat} {P : Nat} {A : Adr} {f : fZ} {J : List aQ}
def oC(ρ:Nat→Nat)(g:Nat):Nat→Nat:=fun x=>if x=g then 2 else ρ x
theorem St.setRoots(h:St w ρ P A f J){g:Nat}{rs rj:List (Int×Int)}(hF:Frm (fun x=>x=A.ra) w w1)(hg:IsC w1 g (cT (rs++rj)) 77)(bm:g=A.ra∨ρ g=0)(lq:rs.length+rj.length≤maxLen):
  St (w1.setCell ⟨P,0,none⟩ (.slice (some ⟨g,0,none⟩) rs.length (rs.length+rj.length))) (oC ρ g) P {A with ra:=g,rj:=rj} {f with roots:=rs} J∧Mv (fun x=>x=g∧ρ x=0) w ρ (w1.setCell ⟨P,0,none⟩ (.slice (some ⟨g,0,none⟩) rs.length (rs.length+rj.length))) (oC ρ g):=by
 have nu:ρ A.ra=2∧ρ P=1:=by obtain⟨_,_,_,h1,_⟩:=h;exact⟨h1.rr,h1.rP⟩
 have ap:∀x,ρ x≠0→x<w.heap.size:=by obtain⟨_,_,_,h1,_⟩:=h;exact h1.own
 have mj:ρ g=2∨ρ g=0:=by
  rcases bm with e | e
  ·left;rw[e];exact nu.1
  ·exact .inr e
 have Qk:g≠P:=fun e=>by rw[e,nu.2]at mj;omega
 have k:Frm (fun x=>x=A.ra∨x=P) w (w1.setCell ⟨P,0,none⟩ (.slice (some ⟨g,0,none⟩) rs.length (rs.length+rj.length))):=(hF.wide fun x _ e=>.inl e).trans (Frm.set w1 (p:=⟨P,0,none⟩) (.inr rfl) _);have cy:∀x,ρ x≠0→oC ρ g x=ρ x:=fun x hx=>by
  unfold oC;split
  ·rename_i e;rw[e]at hx ⊢;omega
  ·rfl
 have CX:oC ρ g g=2:=by simp[oC]
 have av:∀{x r},ρ x=r→r≠2→r≠1→¬(x=A.ra∨x=P):=fun {x r} e h1 h2 q=>by
  rcases q with q | q
  ·rw[q,nu.1]at e;exact h1 e.symm
  ·rw[q,nu.2]at e;exact h2 e.symm
 refine⟨h.of k (fun x e=>?_) (fun x _ hx=>cy x fun e=>by rw[e]at hx;exact aCO hx) fun jv hR=>?_,k.wide (fun x _ e=>?_),fun x _ hx=>?_⟩
 ·rcases e with e | e
  ·rw[e,nu.1];exact aCP.2
  ·rw[e,nu.2];exact uZ.2
 ·have hK:Kp (fun x=>x=A.ra∨x=P) w ρ (w1.setCell ⟨P,0,none⟩ (.slice (some ⟨g,0,none⟩) rs.length (rs.length+rj.length))) (oC ρ g):=⟨k,fun x _ hx=>cy x hx.1,fun x hx=>by
   by_cases e:x=g
   ·rw[e];have:=hg.lt;simpa using this
   ·have:ρ x≠0:=by unfold oC at hx;rw[if_neg e]at hx;exact hx
    exact lL (ap x this) k.size⟩
  have Kh:IsC w1 P (dE A f jv) 71:=hR.hP.frm hF (fun e=>by have:=nu.1;rw[←e,nu.2]at this;omega);refine hR.gen (A':={A with ra:=g,rj:=rj}) (f':={f with roots:=rs}) hK (.inr ?_) (.inr ⟨hg.set_ne _ Qk,CX⟩) (.inl ⟨av hR.rm (by omega) (by omega),rfl⟩) rfl (.inl ⟨av hR.rc (by omega) (by omega),rfl⟩) rfl (.inl ⟨av hR.rd (by omega) (by omega),rfl,rfl⟩) (fun x d hx=>.inl ⟨hx,rfl,rfl,fun y hy=>?_⟩) hR.no lq hR.ds
  ·have:=Kh.set 0 (.slice (some ⟨g,0,none⟩) rs.length (rs.length+rj.length))
   simpa [dE] using this
  ·rcases hy with e | e
   ·exact av e (by unfold cE;omega) (by unfold cE;omega)
   ·exact av e (by unfold cB;omega) (by unfold cB;omega)
 ·left
  rcases e with e | e
  ·rw[e,nu.1];omega
  ·rw[e,nu.2];omega
 ·unfold oC
  split
  ·rename_i e
   rcases mj with q | q
   ·rw[e,q]
   ·exact absurd ⟨e,by rw[e];exact q⟩ hx
  ·rfl
theorem St.setNum(h:St w ρ P A f J){i:Nat}{v:Int}{f':fZ}(hn:f'.roots=f.roots∧f'.cur=f.cur∧f'.com=f.com∧f'.nodes=f.nodes)(hc:∀jv,(dE A f jv).setIfInBounds i (.int .i64 v)=dE A f' jv):
  St (w.setCell ⟨P,i,none⟩ (.int .i64 v)) ρ P A f' J∧Mv (fun _=>False) w ρ (w.setCell ⟨P,i,none⟩ (.int .i64 v)) ρ:=by
 have Bv:ρ P=1:=by obtain⟨_,_,_,h1,_⟩:=h;exact h1.rP
 have k:Frm (fun x=>x=P) w (w.setCell ⟨P,i,none⟩ (.int .i64 v)):=Frm.set (S:=fun x=>x=P) w (p:=⟨P,i,none⟩) rfl _;refine⟨h.of k (fun x e=>by rw[e,Bv];exact uZ.2) (fun _ _ _=>rfl) fun jv hR=>?_,k.wide (fun x _ e=>.inl (by rw[e,Bv];omega)),fun _ _ _=>rfl⟩;have no:∀{x r},ρ x=r→r≠1→¬x=P:=fun {x r} e hr q=>hr (by rw[←e,q,Bv]);obtain⟨n1,n2,n3,n4⟩:=hn;refine hR.gen (f':=f') (Kp.same hR k) (.inr ?_) (.inl ⟨no hR.rr (by omega),rfl,by rw[n1]⟩) (.inl ⟨no hR.rm (by omega),rfl⟩) rfl (.inl ⟨no hR.rc (by omega),n2⟩) rfl (.inl ⟨no hR.rd (by omega),rfl,by rw[n3]⟩) (fun x d hx=>.inl ⟨by rw[←n4];exact hx,rfl,rfl,fun y hy=>?_⟩) (fun b hb=>hR.no b (by rw[←n4];exact hb)) (by rw[n1];exact hR.rs) (by rw[n3];exact hR.ds)
 ·have:=hR.hP.set i (.int .i64 v)
  rw[hc]at this;exact this
 ·rcases hy with e | e
  ·exact no e (by unfold cE;omega)
  ·exact no e (by unfold cB;omega)
theorem aFT(W:World)(x y:Int):(Instr.build 77 #[(0,.int .i64 x),(1,.int .i64 y)]).run Tryz.prog W=.ok (.agg #[.int .i64 x,.int .i64 y]) W:=by kernel_rfl
theorem aLR(W:World)(x y:Int):(Instr.buildSlice 55 1 #[(0,.agg #[.int .i64 x,.int .i64 y])]).run Tryz.prog W=.ok (.slice (some ⟨W.heap.size,0,none⟩) 1 1) (W.alloc (.cells #[.int .i64 x,.int .i64 y] 77)):=by kernel_rfl
theorem aDE{W:World}{g:Nat}{rs rj:List (Int×Int)}(x y:Int)(G:Nat)(hg:IsC W g (cT (rs++rj)) 77)(hG:IsC W G (cT [(x,y)]) 77)(hl:rs.length≤100)(hm:rs.length+rj.length≤maxLen):
  ∃W' g' rj',(∀ty,(Builtin.append_ #[55,55] ty #[.slice (some ⟨g,0,none⟩) rs.length (rs.length+rj.length),.slice (some ⟨G,0,none⟩) 1 1]).run Tryz.prog W=.ok (.slice (some ⟨g',0,none⟩) (rs++[(x,y)]).length ((rs++[(x,y)]).length+rj'.length)) W')∧IsC W' g' (cT (rs++[(x,y)]++rj')) 77∧(g'=g∨W.heap.size≤g')∧(rs++[(x,y)]).length+rj'.length≤maxLen∧Frm (fun k=>k=g) W W':=by
 obtain⟨u,W',a',rj',h1,rfl,h3,h4,h5,h6⟩:=aFP (some g) rs rj [(x,y)] (.slice (some ⟨G,0,none⟩) 1 1) W (fun g' e=>by cases e;exact hg) (fun e=>by cases e) (.inr ⟨G,0,1,[(x,y)],rfl,hG,by simp,by simp⟩) (by simp;omega) hm;cases a' with
 | none=>have:=(h4 rfl).2.1;simp at this
 | some g'=>
  refine⟨W',g',rj',fun ty=>?_,(h3 g' rfl).1,?_,by simpa using h5,h6.wide fun k _ e=>by cases e;rfl⟩
  ·have:=h1 ty
   simpa [adr] using this
  ·rcases(h3 g' rfl).2 with e | e
   ·left;cases e;rfl
   ·exact .inr e
theorem aFX{K:Int}(w:World)(ρ:Nat→Nat)(P:Nat)(A:Adr)(f:fZ)(J:List aQ)(t:Nat)(h:St w ρ P A f J)(hI:IC f)(hz:Sz K f)(hK:K≤900000)(ht:t<f.roots.length)(ju:f.roots.length<16)(hn:0≤f.next∧f.next<65535):
  Calls Tryz.prog 103 #[.pointer (some ⟨P,0,none⟩),.int .i64 (aB f t)] w fun e w'=>e=.returned (.int .i64 f.next)∧∃ρ' A',St w' ρ' P A' (cU f t) J∧Mv (fun _=>False) w ρ w' ρ':=by
 have h0:0≤(f.roots.getD t (0,0)).2:=(hI.rb _ (aO ht)).1;obtain⟨d,hd⟩:=hI.root_live (aO ht);have d5:aB f t<f.cur.length:=hz.lt _ _ hd;have CR:((aB f t:Nat):Int) <(f.cur.length:Int):=by omega
 have er:(f.roots.getD t (0,0)).2=((aB f t:Nat):Int):=by unfold aB;omega
 obtain⟨ja,jp,jj,hR,hJ⟩:=id h;have R1:IntKind.i64.wrap (f.next+1)=f.next+1:=IntWalk.i64_in _ ⟨by omega,by omega⟩;have pp:=hz.cb (aB f t);have YX:IntKind.i64.wrap (cu f (aB f t)+1)=cu f (aB f t)+1:=IntWalk.i64_in _ ⟨by omega,by omega⟩;have c1:w.cell? ⟨P,1,none⟩=some (.int .i64 f.next):=by rw[hR.hP.cell];rfl
 have z1:=hR.hP.frozen 1;obtain⟨br,DJ⟩:=h.setNum (i:=1) (v:=f.next+1) (f':={f with next:=f.next+1}) ⟨rfl,rfl,rfl,rfl⟩ (fun jv=>by simp[dE]);obtain⟨w1,PI⟩:=exH (w.setCell ⟨P,1,none⟩ (.int .i64 (f.next+1)));rw[←PI.out]at br DJ;obtain⟨ja1,jp1,jj1,it,ot⟩:=id br;obtain⟨W2,DY⟩:=exH (w1.alloc (.cells #[.int .i64 f.next,.int .i64 (aB f t)] 77));obtain⟨G,HG⟩:=exH (w1.heap.size);have cx:Bl w1 W2:=by rw[DY.out];exact(bQ w1.heap.size w1).alloc (nR _) _
 have VU:IsC W2 G (cT [(f.next,((aB f t:Nat):Int))]) 77:=by rw[DY.out,HG.out];exact IsC.new _ _ _
 have ax:=br.below cx;obtain⟨ja2,jp2,jj2,iu,ow⟩:=id ax;have pj:IsC W2 A.ra (cT (f.roots++A.rj)) 77:=iu.hr;obtain⟨W3,g3,rj3,q9,Aq,MZ,Rq,bu⟩:=aDE f.next ((aB f t:Nat):Int) G pj VU (by omega) hR.rs;have Qj:g3=A.ra∨ρ g3=0:=by
  rcases MZ with e | e
  ·exact .inl e
  ·right;exact Nat.eq_zero_of_not_pos fun q=>absurd (iu.own g3 (by omega)) (by omega)
 obtain⟨aw,Ak⟩:=ax.setRoots bu Aq Qj Rq;have r2:W2.cell? ⟨P,0,none⟩=some (.slice (some ⟨A.ra,0,none⟩) f.roots.length (f.roots.length+A.rj.length)):=by rw[iu.hP.cell];rfl
 have r1:w1.cell? ⟨P,0,none⟩=some (.slice (some ⟨A.ra,0,none⟩) f.roots.length (f.roots.length+A.rj.length)):=by rw[it.hP.cell];rfl
 have Fe:IsC W3 P _ _:=iu.hP.frm bu (fun e=>by have:=iu.rr;have e2:=iu.rP;rw[e]at e2;have e3:ρ A.ra=2:=this;omega);have r3:W3.cell? ⟨P,0,none⟩=some (.slice (some ⟨A.ra,0,none⟩) f.roots.length (f.roots.length+A.rj.length)):=Fe.c rfl;have z3:=Fe.frozen 0;obtain⟨W4,Cf⟩:=exH (W3.setCell ⟨P,0,none⟩ (.slice (some ⟨g3,0,none⟩) (f.roots++[(f.next,((aB f t:Nat):Int))]).length ((f.roots++[(f.next,((aB f t:Nat):Int))]).length+rj3.length)));rw[←Cf.out]at aw Ak;obtain⟨ja4,jp4,jj4,li,CG⟩:=id aw;have m4:W4.cell? ⟨P,4,none⟩=some (.slice (some ⟨A.c,0,none⟩) f.cur.length f.cur.length):=by rw[li.hP.cell];rfl
 have jh:W4.cell? ⟨A.c,aB f t,none⟩=some (.int .i64 (cu f (aB f t))):=li.count d5;have z4:W4.frozen? ⟨A.c,aB f t,none⟩=false:=li.hc.frozen _;obtain⟨cw,ng⟩:=aw.setC (b:=aB f t) d5 (cu f (aB f t)+1);have bg:setC {{f with next:=f.next+1} with roots:=f.roots++[(f.next,((aB f t:Nat):Int))]} (aB f t) (cu f (aB f t)+1)=cU f t:=by
  unfold cU setC;rw[er]
 have Ev:Mv (fun _=>False) w ρ (W4.setCell ⟨A.c,aB f t,none⟩ (.int .i64 (cu f (aB f t)+1))) (oC ρ g3):=by
  refine((((DJ.trans (Mv.of_below cx) (fun _ _ e=>e)).up (Y:=fun x=>x=g3∧ρ x=0) (fun _ _ e=>e.elim)).trans Ak (fun _ _ e=>e)).trans ng (fun _ _ e=>e.elim)).up fun x hx e=>?_;obtain⟨e1,e2⟩:=e;rcases MZ with q | q
  ·rw[e1,q,hR.rr]at e2;omega
  ·have:=DJ.frm.size;have:=cx.size;omega
 have Gm:=aFT;have lk:=aLR;have HX:=aA (aI cw Ev);have HH:=aA (aI bg q9);have QB:=q9;generalize GG:cu f (aB f t)=qc at *;generalize GF:aB f t=qb at *;have e1:=PI.out.symm;have e2:=DY.out.symm;have e3:=HG.out.symm;have e4:=Cf.out.symm;simp only[lP,List.length_cons,List.length_nil,Nat.zero_add]at e4;clear cw Ev bg aw Ak ax br DJ ng q9 PI DY HG Cf;go_enter Tryz.func103,Tryz.ntmps103;go_wp2_with (at_builtin;refine cH rfl _ _ _ _ rfl (.slice (some ⟨A.ra,0,none⟩) f.roots.length (f.roots.length+A.rj.length)) (.slice (some ⟨G,0,none⟩) 1 1) rfl rfl _ _ (QB _) ?_);go_ret;obtain⟨cw,Ev⟩:=HX.out;rw[HH.out.1]at cw;exact⟨rfl,_,⟨_,cw⟩,Ev⟩
end Go.Proofs.YtaahkgkdpnnhhaaGreat
namespace Go.Proofs.YtaahkgkdpnnhhaaGreat
open Go.RowKit Go.Shelf Fo
variable{K:Int}{w:World}{f:fZ}
attribute [local go_sem] Oper.semAt_some
theorem UC.pos{h:Nat}{b:Nat}(u:UC h f b)(x:Nat):0≤cu f x:=by
 obtain⟨g,S,ht,E,ab,ip,-⟩:=u;rw[mZ ab];exact ip.dom.pos x
theorem Sz.uk{g:fZ}(h:Sz K f)(u:UK f g)(hp:∀x,0≤cu g x):Sz K g:=by
 have hn:∀b d,g.nodes b=some d→f.nodes b=some d:=fun b d hb=>by
  rcases u.nodes b with q | q
  ·rw[q]at hb;exact hb
  ·rw[q]at hb;cases hb
 exact⟨by rw[u.len];exact h.n512,by rw[u.len];exact h.n8,by rw[u.len,u.com];exact h.com,fun b d hb=>h.ent b d (hn b d hb),fun b d hb=>by rw[u.len];exact h.lt b d (hn b d hb),fun i=>⟨hp i,Int.le_trans (u.cu i) (h.cb i).2⟩,fun i=>by unfold co;rw[u.com];exact h.mb i⟩
theorem Frm.own{S:Nat→Prop}{w0 w':World}{row:Option Nat}(h:Frm S w0 w)(hg:w.grownBy w' row)(hr:∀r,row=some r→w0.heap.size≤r):Frm S w0 w':=
 ⟨hg.os.trans h.os,hg.tape.trans h.tape,hg.output.trans h.output,lT h.size hg.size,fun k hk hn=>(hg.block k (lL hk h.size) fun e=>by have:=hr k e.symm;omega).trans (h.block k hk hn)⟩
structure UnP(w:World)(ρ:Nat→Nat)(P:Nat)(A:Adr)(J:List aQ)(r:fZ×Int)(e:Ending)(w':World):Prop where
 e:e=.returned (.int .i64 r.2)
 ex:∃φ',St w' ρ P {A with φ:=φ'} r.1 J
 frm:Frm (fun k=>k=A.c∨k=A.m) w w'
theorem vS(F:Fence)(n:Nat)(hW:∀{f:FuncId} {args:Array Value} {w:World} {R:Ending→World→Prop} {m:Nat},Calls Tryz.prog f args w R→CallsIn F m Tryz.prog f args w R)(o9:∀k,F.fn k)(cy:F.round=none)(hn:5≤n)
  (h:Nat) (w:World) (ρ:Nat→Nat) (P:Nat) (A:Adr) (f:fZ) (J:List aQ) (b:Nat) (hS:St w ρ P A f J) (hz:Sz K f) (hK:K≤900000) (hu:UC h f b) (r:List Nat→fZ×Int) (d:Nd) (hd:f.nodes b=some d) (KE:r []=(dec f b,1))
  (fk:¬0<cu f b-1→∀(pre post:List Nat),kids d=pre++post→1≤(r pre).2∧(r pre).2≤600)
  (IH:¬0<cu f b-1→∀(pre:List Nat) (x:Nat) (post:List Nat),kids d=pre++x :: post→∀(W:World) (φ1:Nat→Option Nat),St W ρ P {A with φ:=φ1} (r pre).1 J→Calls Tryz.prog 127 #[.pointer (some ⟨P,0,none⟩),.int .i64 (x:Int)] W (UnP W ρ P {A with φ:=φ1} J ((r (pre++[x])).1,(r (pre++[x])).2 -(r pre).2))):
  CallsIn F n Tryz.prog 127 #[.pointer (some ⟨P,0,none⟩),.int .i64 b] w (UnP w ρ P A J (if 0<cu f b-1 then(dec f b,0)else(delN (r (kids d)).1 b,(r (kids d)).2))):=by
 have nm:1≤n:=by omega
 obtain⟨d',fy,d5,en,kg,-⟩:=hu.live;rw[hd]at fy;cases fy;have CR:(b:Int) <(f.cur.length:Int):=by omega
 have ft:d.2.length≤10:=hz.ent b d hd;obtain⟨ja,jp,jj,hR,hJ⟩:=id hS;obtain⟨m3,m4,m5,m7⟩:=hR.cells;have jh:=hR.count d5;have DK:=hR.hP.lt;have au:=hR.hc.lt;have CV:=hR.hm.lt;have pp:=hz.cb b;have wj:IntKind.i64.wrap (cu f b-1)=cu f b-1:=IntWalk.i64_in _ ⟨by omega,by omega⟩;refine callsIn_of_wp_marks Tryz.func127 rfl (o9 _) ?_ cy;simp only[Tryz.ntmps127,List.size_toArray,List.length_cons,List.length_nil,Nat.reduceAdd,Nat.reduceSub,Array.replicate_succ,Array.replicate_zero,List.push_toArray,List.append_toArray,List.nil_append,List.cons_append];have d9:Bl w (w.alloc (.cells #[.pointer (some ⟨P,0,none⟩)] 65)):=(bQ _ w).alloc (nR _) _;have br:=hS.below d9;have it:=Boxed.new w 65 (.pointer (some ⟨P,0,none⟩));have io:(w.alloc (.cells #[.pointer (some ⟨P,0,none⟩)] 65)).heap.size=w.heap.size+1:=by simp
 have k1:=it.cell;have av:w.heap.size≠A.c:=by omega
 obtain⟨w1,be⟩:=eZ (w.alloc (.cells #[.pointer (some ⟨P,0,none⟩)] 65));rw[be]at d9 br it io k1;obtain⟨ja1,jp1,jj1,Fi,ot⟩:=id br;obtain⟨n3,n4,n5,n7⟩:=Fi.cells;have QQ:=Fi.count d5;have Qh:w1.frozen? ⟨A.c,b,none⟩=false:=Fi.hc.frozen b;obtain⟨ax,sn⟩:=br.setC (b:=b) d5 (cu f b-1);have eu:Boxed (w1.setCell ⟨A.c,b,none⟩ (.int .i64 (cu f b-1))) w.heap.size 65 (.pointer (some ⟨P,0,none⟩)):=(aX _ _ av).trans it;have k2:=eu.cell;obtain⟨w2,bw⟩:=eZ (w1.setCell ⟨A.c,b,none⟩ (.int .i64 (cu f b-1)));have du:Frm (fun k=>k=A.c∨k=A.m) w w2:=by
  rw[←bw];exact(Frm.of_below d9).trans (Frm.set w1 (p:=⟨A.c,b,none⟩) (.inl rfl) _)
 have rq:w2.heap.size=w.heap.size+1:=by rw[←bw,←io];exact cN (g:=A.c) [_] w1 b
 rw[bw]at ax sn eu k2;obtain⟨ja2,jp2,jj2,BO,ow⟩:=id ax;obtain⟨o3,o4,o5,o7⟩:=BO.cells;have o4':w2.cell? ⟨P,4,none⟩=some (.slice (some ⟨A.c,0,none⟩) f.cur.length f.cur.length):=by
  rw[o4];simp[Fo.setC]
 have JD:w2.cell? ⟨A.c,b,none⟩=some (.int .i64 (cu f b-1)):=by
  rw[BO.hc.cell];simp[dG,Fo.setC,d5]
 clear o4 o5 o7 n5 n7 m3 m4 m5 m7;by_cases hc:0<cu f b-1
 ·rw[if_pos hc]
  have QR:(0:Int)<cu f b-1:=hc;gi_wp2;exact⟨.int .i64 0,by simp[results,Tryz.f127,go_sem],⟨rfl,⟨A.φ,ax⟩,du⟩⟩
 ·rw[if_neg hc]
  have QR:¬(0:Int)<cu f b-1:=hc;obtain⟨q,hφ,wn,wl,junk,hN⟩:=BO.nd b d hd;have gk:=BO.hm.lookup b (by have:=hz.n512;omega);rw[hφ]at gk;simp only[eQ,Option.map_some]at gk;obtain⟨w3,dh⟩:=eZ (w2.alloc (.cells #[.int .i64 1] 2));obtain⟨D1,Gf⟩:=eZ (w2.heap.size);have fj:=bAl dh;have Hg:w3.heap.size=D1+1:=by rw[←dh,←Gf];simp
  have JW:Boxed w3 D1 2 (.int .i64 1):=by rw[←dh,←Gf];exact Boxed.new _ _ _
  have ko:Boxed w3 w.heap.size 65 (.pointer (some ⟨P,0,none⟩)):=(fj.block _ (by omega)).trans eu;have cq:=ax.below fj;have q7:=hN.below fj;obtain⟨ja3,jp3,jj3,Dr,sy⟩:=id cq;have p3:=Dr.cells.m3;have k3:=ko.cell;have RK:(Instr.lookup 68 (.map (some A.m)) (.int .i64 b) false).run Tryz.prog w3=.ok (.pointer (some ⟨q,0,none⟩)) w3:=by
   have:=Dr.hm.lookup b (by have:=hz.n512;omega)
   rw[hφ]at this;simpa only[eQ,Option.map_some] using this
  have WV:w3.cell? ⟨D1,0,none⟩=some (.int .i64 1):=JW.cell;have kf:=aA (aI io (aI rq Hg));clear gk io rq Hg;gi_wp2_with (gi_at_call 59;refine(kN F (n-1) (o9 _) cy _ _).mono ?_;rintro e w' ⟨rfl,rfl⟩);obtain⟨io,rq,XY⟩:=kf.out;clear kf;have dm:Bl w3 (w3.alloc (.cells #[.pointer (some ⟨q,0,none⟩)] 112)):=(bQ _ w3).alloc (nR _) _;have Cs:IsC (w3.alloc (.cells #[.pointer (some ⟨q,0,none⟩)] 112)) w3.heap.size #[.pointer (some ⟨q,0,none⟩)] 112:=IsC.new _ _ _;have Rt:(w3.alloc (.cells #[.pointer (some ⟨q,0,none⟩)] 112)).heap.size=w3.heap.size+1:=by simp
  generalize Fk:w3.alloc (.cells #[.pointer (some ⟨q,0,none⟩)] 112)=w4 at *;have aw:=cq.below dm;have Dm:=q7.below dm;have kq:Boxed w4 w.heap.size 65 (.pointer (some ⟨P,0,none⟩)):=(dm.block _ (by omega)).trans ko;have Qc:Boxed w4 D1 2 (.int .i64 1):=(dm.block _ (by omega)).trans JW;have C2:q<w4.heap.size:=Dm.box.lt;have Av:d.1=2→∀e∈d.2,0≤e.2.2:=fun h2 e he=>by
   rcases kg with q | ⟨_,_,q⟩
   ·omega
   ·exact(q e he).1
  have jm:Frm (fun k=>k=A.c∨k=A.m) w w4:=(du.trans (Frm.of_below fj)).trans (Frm.of_below dm);have VH:w.heap.size<D1:=by omega
  have JC:A.c<w.heap.size:=au;have YK:A.m<w.heap.size:=CV;have Kx:q≠A.c∧q≠A.m∧q≠D1∧∀g,A.α b=some g→g≠A.c∧g≠A.m∧g≠D1:=by
   have z1:=Dr.rc;have z2:=Dr.rm;have z3:ρ D1=0:=Nat.eq_zero_of_not_pos fun q=>absurd (BO.own D1 (by omega)) (by omega);refine⟨fun e=>?_,fun e=>?_,fun e=>?_,fun g hg=>⟨fun e=>?_,fun e=>?_,fun e=>?_⟩⟩
   ·rw[←e,wn]at z1;unfold cE at z1;omega
   ·rw[←e,wn]at z2;unfold cE at z2;omega
   ·rw[←e,wn]at z3;unfold cE at z3;omega
   ·rw[←e,wl g hg]at z1;unfold cB at z1;omega
   ·rw[←e,wl g hg]at z2;unfold cB at z2;omega
   ·rw[←e,wl g hg]at z3;unfold cB at z3;omega
  have Xo:ρ D1=0:=Nat.eq_zero_of_not_pos fun q=>absurd (BO.own D1 (by omega)) (by omega);have Px:St w4 ρ P {A with φ:=A.φ} (r []).1 J:=by rw[KE];exact aw
  have Rf:(r []).2=1:=by rw[KE]
  clear cq ax br Dr BO Fi sy ow ot q7 hN ko JW k3 WV p3 RK k2 k1 o3 o4' JD QQ Qh n3 n4 aw sn d9 it be bw dh;refine jD cy nm (gf:=82) (lb:=#[.pointer (some ⟨w3.heap.size,0,none⟩)]) rfl (o9 _) (enters_of Tryz.func82 (by kernel_rfl) rfl)
   (jQ F (n-1) (o9 _) cy (by omega) w3.heap.size q d (A.α b) junk ft Av w4 Cs Dm) KpC.trans (KpC.put Cs.lt C2 (fun g e=>(Dm.arr g e).1.lt)) (bQ _ _) rfl
   (fun pre W=>(∃φ1,St W ρ P {A with φ:=φ1} (r pre).1 J)∧Frm (fun k=>k=A.c∨k=A.m∨k=D1) w4 W∧Boxed W w.heap.size 65 (.pointer (some ⟨P,0,none⟩))∧Boxed W D1 2 (.int .i64 (r pre).2))
   ?_ ⟨⟨A.φ,Px⟩,Frm.refl _ _,kq,by rw[Rf];exact Qc⟩ ?_ ?_
  ·refine fun pre X Y row hs hg jr=>?_
   obtain⟨⟨φ1,h1⟩,h2,h3,h4⟩:=hs;have AS:∀x,row=some x→w4.heap.size≤x:=fun x e=>(jr x e).1;refine⟨⟨φ1,h1.own hg fun x e=>⟨by have:=AS x e;show x≠A.m;omega,(jr x e).2⟩⟩,h2.own hg AS,h3.kept hg fun e=>?_,h4.kept hg fun e=>?_⟩
   ·have:=AS _ e.symm;omega
   ·have:=AS _ e.symm;omega
  ·intro l pre x W hi lg
   gi_wp2
   refine⟨trivial,?_⟩;clear hi;rintro W ⟨⟨φ1,h1⟩,h2,h3,h4⟩;obtain⟨post,KC⟩:=lg;have AN:kids d=pre++x :: post:=by rw[←KC];simp
   obtain⟨ao,ba⟩:=fk hc pre (x :: post) AN;obtain⟨ce,jq⟩:=fk hc (pre++[x]) post (by rw[AN];simp);have Lt:=IH hc pre x post AN;have ms:=h3.cell;have jd:=h4.cell;have AG:=h4.frozen;have LD:IntKind.i64.wrap ((r pre).2+((r (pre++[x])).2 -(r pre).2))=(r (pre++[x])).2:=by
    rw[IntWalk.i64_in _ ⟨by omega,by omega⟩];omega
   have Vd:St W.drew ρ P {A with φ:=φ1} (r pre).1 J:=h1.below (bQ W.heap.size W).drew;have HH:=aA (aI h2 (aI h3 h4));have HB:=aA (aI ao (aI ba (aI ce jq)));clear h1 h2 h3 h4 ao ba ce jq KC AN;gi_wp2;gi_region_with (refine⟨fun _=>by omega,(CallsIn.inRound l (hW (Lt _ φ1 Vd))).mono ?_⟩;rintro e W2 ⟨rfl,⟨φ2,h5⟩,h6⟩;have q4:Boxed W2 D1 2 (.int .i64 (r pre).2):=(h6.block D1 HH.out.2.2.lt (fun e=>by rcases e with e | e<;>(have e':=e;simp only at e';omega))).trans HH.out.2.2;have q5:=q4.cell;have q6:=q4.frozen)
   all_goals (
    obtain⟨h2,h3,h4⟩:=HH.out;have il:∀k,k<W.heap.size→k≠A.c→k≠A.m→k≠D1→(W2.setCell ⟨D1,0,none⟩ (.int .i64 (r (pre++[x])).2)).heap[k]?=W.heap[k]?:=fun k hk e1 e2 e3=>(aX W2 _ e3).trans (h6.block k hk fun e=>by rcases e with e | e;exact e1 e;exact e2 e);have bu:Frm (fun k=>k=A.c∨k=A.m∨k=D1) w4 (W2.setCell ⟨D1,0,none⟩ (.int .i64 (r (pre++[x])).2)):=((h2.trans (Frm.drew _ W)).trans (h6.wide fun k _ e=>by rcases e with e | e;exact .inl e;exact .inr (.inl e))).trans (Frm.set W2 (p:=⟨D1,0,none⟩) (.inr (.inr rfl)) _);have cq:=h5.frm (w':=W2.setCell ⟨D1,0,none⟩ (.int .i64 (r (pre++[x])).2)) (Frm.set W2 (p:=⟨D1,0,none⟩) Xo _);have GK:w4.heap.size≤W.heap.size:=h2.size;have ce:Boxed (W2.setCell ⟨D1,0,none⟩ (.int .i64 (r (pre++[x])).2)) w.heap.size 65 (.pointer (some ⟨P,0,none⟩)):=(il _ h3.lt (by omega) (by omega) (by omega)).trans h3;have EO:=q4.set (.int .i64 (r (pre++[x])).2);have bd:W.heap.size≤(W2.setCell ⟨D1,0,none⟩ (.int .i64 (r (pre++[x])).2)).heap.size:=lT h6.size (Nat.le_of_eq (cN (g:=D1) [_] W2 0).symm);have lc:KeepsFrom w4.heap.size W (W2.setCell ⟨D1,0,none⟩ (.int .i64 (r (pre++[x])).2)):=⟨bd,fun k o hk y8 _=>(il k (Array.getElem?_eq_some_iff.1 y8).1 (by omega) (by omega) (by omega)).trans y8⟩;have vi:KpC w3.heap.size q (A.α b) W (W2.setCell ⟨D1,0,none⟩ (.int .i64 (r (pre++[x])).2)):=⟨bd,il _ (by omega) (by omega) (by omega) (by omega),il q (by omega) Kx.1 Kx.2.1 Kx.2.2.1,fun g e=>il g (by have:=(Dm.arr g e).1.lt;omega) (Kx.2.2.2 g e).1 (Kx.2.2.2 g e).2.1 (Kx.2.2.2 g e).2.2⟩;have HF:=aA (aI lc (aI vi (aI cq (aI bu (aI ce EO)))));clear lc vi cq bu ce EO il h5 h6 h2 h3 h4 q4 q5 q6;gi_wp2;obtain⟨lc,vi,cq,bu,ce,EO⟩:=HF.out;exact⟨lc,vi,⟨φ2,cq⟩,bu,ce,EO⟩)
  ·rintro D W hD ⟨⟨φ1,h1⟩,h2,h3,h4⟩ hK
   obtain⟨jae,jpe,jje,Pv,VP⟩:=id h1;obtain⟨w5,FC,ng,el⟩:=Pv.hm.del b (by have:=hz.n512;omega) 0;have p3:=Pv.cells.m3;have ms:=h3.cell;have Td:D≠A.m:=by omega
   have CH:w5.heap[D]?=some (.deferred (some [])):=(el.block D (Array.getElem?_eq_some_iff.1 hK).1 Td).trans hK;have Ft:Boxed w5 D1 2 (.int .i64 (r (kids d)).2):=(el.block D1 h4.lt (by show D1≠A.m;omega)).trans h4;have WA:=Ft.cell;obtain⟨cw,Ij⟩:=h1.del (b:=b) ng el;have FV:Frm (fun k=>k=A.c∨k=A.m) w w5:=(jm.next h2 (fun x hx e=>by rcases e with e | e | e;exact .inl e;exact .inr e;omega)).next el (fun x _ e=>.inr e);have HF:=aA (aI cw (aI FV CH));clear cw Ij FV ng el h1 h2 h3 h4 Pv VP hK CH Ft;gi_wp2;obtain⟨cw,FV,CH⟩:=HF.out;have bm:w5.grownBy (w5.putObj D (.deferred none)) (some D):=grownBy_putObj' w5 D _;refine⟨by simp,.inl ⟨_,_,rfl,run_takeDeferred CH,?_⟩⟩;refine⟨.int .i64 (r (kids d)).2,by simp[results,Tryz.f127,go_sem],⟨rfl,⟨upd φ1 b none,?_⟩,FV.own bm fun x e=>by cases e;have:=jm.size;omega⟩⟩;exact cw.own bm fun x e=>by cases e;exact⟨Td,_,CH,rfl⟩
theorem aEZ(hK:K≤900000):∀(h:Nat) (w:World) (ρ:Nat→Nat) (P:Nat) (A:Adr) (f:fZ) (J:List aQ) (b:Nat),St w ρ P A f J→Sz K f→UC h f b→
  Calls Tryz.prog 127 #[.pointer (some ⟨P,0,none⟩),.int .i64 b] w (UnP w ρ P A J (unname h f b)):=by
 intro h;induction h with
 | zero=>
  intro w ρ P A f J b hS hz hu;obtain⟨d,hd,-,-,-,hk⟩:=hu.live;have gi:=hk rfl;have:=(callsIn_wide (n:=5)).1 (vS (K:=K) Fence.wide 5 (fun h=>callsIn_wide.2 h) (fun _=>trivial) rfl (nR _) 0 w ρ P A f J b hS hz hK hu (fun _=>(dec f b,1)) d hd rfl (fun _ _ _ _=>⟨by show(1:Int)≤1;omega,by show(1:Int)≤600;omega⟩) (fun _ pre x post e=>by rw[gi]at e;simp at e));exact this
 | succ h ih=>
  intro w ρ P A f J b hS hz hu;obtain⟨d,hd,-,-,-,-⟩:=hu.live;have:=(callsIn_wide (n:=5)).1 (vS (K:=K) Fence.wide 5 (fun h=>callsIn_wide.2 h) (fun _=>trivial) rfl (nR _) (h+1) w ρ P A f J b hS hz hK hu (fun l=>unL h l (dec f b,1)) d hd rfl (fun hc=>(hu.next hd hc).2) (fun hc pre x post e W φ1 hW=>by
   have UA:=(hu.next hd hc).1 pre x post e;have Xl:Sz K (unL h pre (dec f b,1)).1:=hz.uk ((UK.dec f b).trans (UK.unL h pre (dec f b,1))) (UC.pos UA);have hC:=ih W ρ P {A with φ:=φ1} _ J x hW Xl UA;have FE:((unL h (pre++[x]) (dec f b,1)).1,(unL h (pre++[x]) (dec f b,1)).2 -(unL h pre (dec f b,1)).2)=unname h (unL h pre (dec f b,1)).1 x:=by
    rw[aIC];refine Prod.ext rfl ?_;simp only;omega
   show Calls _ _ _ _ (UnP W ρ P {A with φ:=φ1} J ((unL h (pre++[x]) (dec f b,1)).1,(unL h (pre++[x]) (dec f b,1)).2 -(unL h pre (dec f b,1)).2))
   rw[FE];exact hC))
  have GP:unname (h+1) f b=if 0<cu f b-1 then(dec f b,0)else(delN (unL h (kids d) (dec f b,1)).1 b,(unL h (kids d) (dec f b,1)).2):=by
   conv=>lhs;unfold unname
   rw[hd];rfl
  rw[GP];exact this
theorem jY{g:Nat}{xs:List (Int×Int)}(h:IsC w g (cT xs) 77){i:Nat}(hi:i<xs.length):w.cell? ⟨g,i*2,none⟩=some (.int .i64 (xs.getD i (0,0)).1)∧w.cell? ⟨g,i*2+1,none⟩=some (.int .i64 (xs.getD i (0,0)).2):=by
 rw[h.cell,h.cell];exact lB xs hi
theorem mG(x y g1 g2:Int)(B:Nat)(w:World)(hB:IsC w B #[.int .i64 g1,.int .i64 g2] 77):
  Calls Tryz.prog 126 #[.agg #[.int .i64 x,.int .i64 y],.pointer (some ⟨B,0,none⟩)] w fun e w'=>e=.returned (.bool (decide ((x,y)=(g1,g2))))∧Bl w w':=by
 have Es:=(bQ w.heap.size w).alloc (nR _) (.cells #[.int .i64 x,.int .i64 y] 77);have d9:=hB.alloc (.cells #[.int .i64 x,.int .i64 y] 77);have c0:(w.alloc (.cells #[.int .i64 x,.int .i64 y] 77)).cell? ⟨B,0,none⟩=some (.int .i64 g1):=d9.c rfl;have c1:(w.alloc (.cells #[.int .i64 x,.int .i64 y] 77)).cell? ⟨B,1,none⟩=some (.int .i64 g2):=d9.c rfl;go_enter Tryz.func126,Tryz.ntmps126;by_cases h1:x=g1
 ·subst h1
  by_cases h2:y=g2
  ·subst h2
   go_wp2
   go_ret
   exact⟨by simp,Es⟩
  ·go_wp2
   go_ret
   exact⟨by simp[h2],Es⟩
 ·go_wp2
  go_ret
  exact⟨by simp[h1],Es⟩
theorem uE(g B cap t:Nat)(rs rj:List (Int×Int))(g1 g2:Int)(w:World)(hg:IsC w g (cT (rs++rj)) 77)(hB:IsC w B #[.int .i64 g1,.int .i64 g2] 77)(ht:t<rs.length)(he:rs.getD t (0,0)=(g1,g2))(av:∀i,i<t→rs.getD i (0,0)≠(g1,g2))(hl:rs.length≤100):
  Calls Tryz.prog 145 #[.slice (some ⟨g,0,none⟩) rs.length cap,.func (.func 126) #[] #[.pointer (some ⟨B,0,none⟩)]] w fun e w'=>e=.returned (.int .i64 t)∧Bl w w':=by
 go_enter Tryz.func145,Tryz.ntmps145
 go_wp2
 go_loopw [8] (fun i wr=>∃k:Nat,k≤t∧i=.int .i64 k∧Bl w wr) (fun i _=>t+1 -(intOf i).toNat)
 case atStart=>exact⟨0,Nat.zero_le _,rfl,bQ _ _⟩
 case round=>
  obtain⟨k,hk,rfl,hb⟩:=hrel;have lm:(k:Int) <(rs.length:Int):=by omega
  have rk:IsC wr g (cT (rs++rj)) 77:=hg.of (hb.block g hg.lt);have Da:IsC wr B #[.int .i64 g1,.int .i64 g2] 77:=hB.of (hb.block B hB.lt);obtain⟨c1,c2⟩:=jY rk (i:=k) (by simp;omega);have e1:(rs++rj).getD k (0,0)=rs.getD k (0,0):=by rw[gD,List.getElem?_append_left (by omega),←gD]
  rw[e1]at c1 c2;obtain⟨⟨x,y⟩,FH⟩:∃xy,rs.getD k (0,0)=xy:=⟨_,rfl⟩;rw[FH]at c1 c2;simp only at c1 c2;clear e1;by_cases Mn:k=t
  ·subst Mn
   rw[he]at FH;cases FH;go_wp2_with fail;refine(mG g1 g2 g1 g2 B wr Da).mono ?_;rintro e w2 ⟨rfl,ba⟩;have JV:decide ((g1,g2)=(g1,g2))=true:=by simp
   rw[JV];go_wp2;go_ret;exact⟨rfl,hb.trans (ba.mono hb.size)⟩
  ·have hn:=av k (by omega)
   rw[FH]at hn;go_wp2_with fail;refine(mG x y g1 g2 B wr Da).mono ?_;rintro e w2 ⟨rfl,ba⟩;have JV:decide ((x,y)=(g1,g2))=false:=by simpa using hn
   rw[JV];clear JV hn;go_wp2;go_roundw
   case rel=>exact⟨k+1,by omega,by go_num,hb.trans (ba.mono hb.size)⟩
   case measure=>simp[intOf];omega
