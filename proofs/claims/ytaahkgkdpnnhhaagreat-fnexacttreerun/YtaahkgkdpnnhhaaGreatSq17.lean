import Derived.Test.YtaahkgkdpnnhhaaGreatSq14
set_option maxHeartbeats 9999999
set_option maxRecDepth 99999
set_option linter.all false
namespace Go.Proofs.YtaahkgkdpnnhhaaGreat
open Go.RowKit Fo
theorem pP{P:Program}{w:World}{o:Oper}{a:Act}{K:Act→World→Prop}{Q:Exit→Act→World→Prop}(s x:Operand)(t tn:TypeId)
  (ho:o.op=.call {callee:=.builtin .append,args:=#[s,x],argTypes:=#[t,tn]}) (vs vx:Value) (hs:a.eval s=vs) (hx:a.eval x=vx)
  (v':Value) (w':World) (hr:(Builtin.append_ #[t,tn] o.type #[vs,vx]).run P w=.ok v' w') (h:K (a.put o.dst v') w'):Oper.wp P o a w K Q:=by
 unfold Oper.wp execOp;simp only[ho,resolve,invoke,builtin,Sem.run_bind,Sem.run_pure,Result.andThen_ok,List.map_toArray,List.map_cons,List.map_nil,hs,hx,hr];exact h
theorem Ely.stepApp1{α:Type}(Y:Ely α){ops:Array Oper}{o:Oper}{a:Act}{K:Act→World→Prop}{Q:Exit→Act→World→Prop}{E:Prop}(hgd:o.guard=none)(s x:Operand)
  (ho:o.op=.call {callee:=.builtin .append,args:=#[s,x],argTypes:=#[Y.s,Y.s]})
  {base:Nat} {w:World} {u:Value} {l:List α} (hown:Y.Own base w u l) (hs:a.eval s=u) (e:α) {cs:Array Value} (hc:cs=(Y.cell e).toArray) (hx:a.eval x=.slice (some ⟨w.heap.size,0,none⟩) 1 1) (hl:l.length<1000000) (hb:base≤w.heap.size)
  (h:∀u' w',Y.Own base w' u' (l++[e])→Below base w w'→Frm (fun k=>base≤k∧∃cs,IsC w k cs Y.t) w w'→K (a.put o.dst u') w'):
  if Region.wanted o (yielded ops a.tmps)=true then Oper.wp Tryz.prog o a (w.alloc (.cells cs Y.t)).drew K Q else E:=by
 rw[if_pos (by simp[Region.wanted,hgd])];subst hc;have hB:=((bQ w.heap.size w).alloc (nR _) (.cells (Y.cell e).toArray Y.t)).drew;have hvs:Y.Sl (w.alloc (.cells (Y.cell e).toArray Y.t)).drew (.slice (some ⟨w.heap.size,0,none⟩) 1 1) [e]:=(Ely.Sl.new w e rfl).below (bQ _ _).drew;have hown':=hown.below hB;obtain⟨ag,junk,rfl,h1,h2⟩:=hown';obtain⟨u',W',a',junk',hr,rfl,k1,k2,k3⟩:=Y.append ag l junk [e] _ _ h1 hvs (by simp;omega);have hsz:w.heap.size≤(w.alloc (.cells (Y.cell e).toArray Y.t)).drew.heap.size:=hB.size;have k5:Below base w W':=(hB.mono hb).trans (k3.below (lT hb hsz) fun k e=>h2 k e);have k4:Frm (fun k=>base≤k∧∃cs,IsC w k cs Y.t) w W':=by
  refine⟨k5.os,k5.tape,k5.output,k5.size,fun k hk hn=>?_⟩;refine(k3.block k (lL hk hsz) fun q=>hn ⟨h2 k q,Y.row (l++junk),?_⟩).trans (hB.block k hk);have:=h1.arr k q;unfold IsC at this ⊢;rw[←hB.block k hk];exact this
 refine pP _ _ _ _ ho _ _ hs hx _ _ (hr _) (h _ _ ⟨a',junk',by simp,k1,fun g e=>?_⟩ k5 k4);rcases k2 g e with q | q
 ·exact h2 g q
 ·omega
theorem Ely.wpApp1F{α:Type}(Y:Ely α){ops:Array Oper}{rest:List Oper}{o:Oper}{a:Act}{Q:Exit→Act→World→Prop}(hgd:o.guard=none)(s x:Operand)
  (ho:o.op=.call {callee:=.builtin .append,args:=#[s,x],argTypes:=#[Y.s,Y.s]})
  {w:World} {ag:Option Nat} {l junk:List α} (hown:Y.Rw w ag l junk) (hs:a.eval s=.slice (adr ag) l.length (l.length+junk.length)) (e:α) {cs:Array Value} (hc:cs=(Y.cell e).toArray) (hx:a.eval x=.slice (some ⟨w.heap.size,0,none⟩) 1 1) (hl:l.length<1000000)
  (h:∀a' junk' w',Y.Rw w' a' (l++[e]) junk'→(∀g,a'=some g→ag=some g∨w.heap.size≤g)→Frm (fun k=>ag=some k) w w'→wpList Tryz.prog ops Q rest (a.put o.dst (.slice (adr a') (l++[e]).length ((l++[e]).length+junk'.length))) w'):
  wpList Tryz.prog ops Q (o :: rest) a (w.alloc (.cells cs Y.t)):=by
 subst hc;have hB:=(bQ w.heap.size w).alloc (nR _) (.cells (Y.cell e).toArray Y.t);have hF:Frm (fun k=>ag=some k) w (w.alloc (.cells (Y.cell e).toArray Y.t)):=Frm.of_below hB;have h1:=hown.frm (Frm.of_below (S:=fun _=>False) hB) fun _ _=>id;obtain⟨u',W',a',junk',hr,rfl,k1,k2,k3⟩:=Y.append ag l junk [e] _ _ h1 (Ely.Sl.new w e rfl) (by simp;omega);have:=h a' junk' W' k1 (fun g q=>(k2 g q).imp id fun q=>lT hB.size q) (hF.trans k3);refine cF hgd _ _ _ _ ho _ _ hs hx _ _ (hr _) ?_;simpa using this
def aKL(p:ByteArray×ByteArray):List Value:=[.string p.1,.string p.2]
def yI:Ely (ByteArray×ByteArray) where
 cell:=aKL
 n:=2
 z:=(.empty,.empty)
 zv:=.agg #[.string .empty,.string .empty]
 t:=85
 s:=40
 by':=32
 hn:=fun _=>rfl
 hp:=by omega
 one:=fun a v hv=>by simp only[aKL,List.mem_cons,List.not_mem_nil,or_false]at hv;rcases hv with rfl | rfl<;>rfl
 hz:=by kernel_rfl
 us:=Tryz.underlying40
 hb:=by omega
 info:=tN (by kernel_rfl)
theorem aKS(W:World)(k v:ByteArray):(Instr.build 85 #[(0,.string k),(1,.string v)]).run Tryz.prog W=.ok (.agg #[.string k,.string v]) W:=by kernel_rfl
structure ItR(w:World)(B:Nat)(l:List (ByteArray×ByteArray))(u:Value)(wr:World):Prop where
 own:yI.Own B wr u l
 frm:Frm (fun k=>k=B) w wr
theorem ItR.app{w:World}{B:Nat}{l l':List (ByteArray×ByteArray)}{u u':Value}{wr w':World}(h:ItR w B l u wr){cs:Array Value}(hbx:IsC w (B+1) cs 108)(hs:w.heap.size=B+2)(ho:yI.Own B w' u' l')(hF:Frm (fun k=>B≤k∧∃cs,IsC wr k cs 85) wr w'):ItR w B l' u' w':=by
 refine⟨ho,⟨hF.os.trans h.frm.os,hF.tape.trans h.frm.tape,hF.output.trans h.frm.output,lT h.frm.size hF.size,fun k hk hn=>?_⟩⟩;refine(hF.block k (lL hk h.frm.size) fun q=>?_).trans (h.frm.block k hk hn);obtain⟨q1,cs',q2⟩:=q;have e:k=B+1:=by omega
 rw[e]at q2;exact(hbx.frm h.frm (by omega)).type_ne q2 (by decide) rfl
structure InR(w w6:World)(B W5:Nat)(l:List (ByteArray×ByteArray))(u:Value)(wr:World):Prop where
 own:∃a junk,u=.slice (adr a) l.length (l.length+junk.length)∧yI.Rw wr a l junk∧∀g,a=some g→B≤g∧(g<W5∨w6.heap.size≤g)
 frm:Frm (fun k=>k=B) w wr
 sz:w6.heap.size≤wr.heap.size
 keep:∀k,W5≤k→k<w6.heap.size→wr.heap[k]?=w6.heap[k]?
theorem InR.step{w w6:World}{B W5:Nat}{l l':List (ByteArray×ByteArray)}{u:Value}{wr w':World}(h:InR w w6 B W5 l u wr){cs:Array Value}(hbx:IsC w (B+1) cs 108)(hs:w.heap.size=B+2){a:Option Nat}{junk:List (ByteArray×ByteArray)}(h1:yI.Rw wr a l junk)(h2:∀g,a=some g→B≤g∧(g<W5∨w6.heap.size≤g)){a':Option Nat}{junk':List (ByteArray×ByteArray)}(k1:yI.Rw w' a' l' junk')(k2:∀g,a'=some g→a=some g∨wr.heap.size≤g)(k3:Frm (fun k=>a=some k) wr w')(hBw:B≤wr.heap.size):InR w w6 B W5 l' (.slice (adr a') l'.length (l'.length+junk'.length)) w':=by
 refine⟨⟨a',junk',rfl,k1,fun g e=>?_⟩,?_,lT h.sz k3.size,fun k q1 q2=>?_⟩
 ·rcases k2 g e with q | q
  ·exact h2 g q
  ·exact⟨by omega,.inr (lT h.sz q)⟩
 ·refine⟨k3.os.trans h.frm.os,k3.tape.trans h.frm.tape,k3.output.trans h.frm.output,lT h.frm.size k3.size,fun k hk hn=>?_⟩
  refine(k3.block k (lL hk h.frm.size) fun q=>?_).trans (h.frm.block k hk hn);have e:k=B+1:=by have:=(h2 k q).1;omega
  rw[e]at q;exact(hbx.frm h.frm (by omega)).type_ne (h1.arr _ q) (by decide) rfl
 ·refine(k3.block k (lL q2 h.sz) fun q=>?_).trans (h.keep k q1 q2)
  have:=(h2 k q).2;omega
theorem aKR{w:World}{u:Value}{l:List (ByteArray×ByteArray)}(h:yI.Sl w u l)(hl:0<l.length):∃g o c,u=.slice (some ⟨g,o,none⟩) l.length c∧g<w.heap.size∧∀(w':World) (i:Nat),(w'.heap[g]?=w.heap[g]?)→i<l.length→w'.cell? ⟨g,o+i*2,none⟩=some (.string (l.getD i (.empty,.empty)).1)∧w'.cell? ⟨g,o+i*2+1,none⟩=some (.string (l.getD i (.empty,.empty)).2):=by
 obtain⟨g,o,c,rfl,hg,hc⟩:=h.at hl;refine⟨g,o,c,rfl,hg,fun w' i he hi=>?_⟩;have hw:∀k,w'.cell? ⟨g,k,none⟩=w.cell? ⟨g,k,none⟩:=fun k=>by simp[World.cell?,he]
 exact⟨(hw _).trans (hc i 0 hi (by decide)),(hw _).trans (hc i 1 hi (by decide))⟩
theorem aBB{nodes:Nat→Option Nd}{h b:Nat}{es:List E3}{k:Int}(hes:nodes b=some (k,es)):bU nodes (h+1) b=es.flatMap fun e=>bU nodes h (ch e):=by
 show(mN nodes b).flatMap _=_
 rw[dN hes]
theorem pI{f:fZ}(hI:IC f)(ga:Nat)(ns nj:List NV):
  ∀(h b:Nat) (lo hi:OB) (w:World),Ok f.nodes h b lo hi→iZ w ga ns nj f.nodes→(bU f.nodes h b).length≤100000→
   Calls Tryz.prog 44 #[.slice (some ⟨ga,0,none⟩) ns.length (ns.length+nj.length),.int .i64 b] w fun r w'=>∃u,r=.returned u∧yI.Own w.heap.size w' u (bU f.nodes h b)∧Bl w w'
 | 0,b,lo,hi,w,hk,hN,hfew=>by
  have hbi:=aKS;obtain⟨es,hes,hnr,hc⟩:=hk;have hit:bU f.nodes 0 b=es.map fun e=>(e.1,e.2.1):=by unfold bU;rw[dN hes]
  rw[hit]at hfew ⊢;have hle5:=hnr.le5;obtain⟨a,cp,hsl,hbA,_,c0,c1,_⟩:=hN.at hes;simp only at hsl c0 c1;have hbI:(b:Int) <(ns.length:Int):=by omega
  have hpos:0<es.length→_:=fun h=>dZ hsl h;obtain⟨B,hB⟩:=eZ (w.heap.size);obtain⟨w1,hw1⟩:=eZ (w.alloc (.cells #[] 85));have hb1:=bAl hw1;obtain⟨B1,hB1⟩:=eZ (w1.heap.size);have c0':w1.cell? ⟨ga,b*2,none⟩=some (.int .i64 1):=(hb1.cell (p:=⟨ga,_,none⟩) hN.arr.lt).trans c0;have c1':w1.cell? ⟨ga,b*2+1,none⟩=some (.slice a es.length cp):=(hb1.cell (p:=⟨ga,_,none⟩) hN.arr.lt).trans c1;go_enter Tryz.func44,Tryz.ntmps44;obtain⟨w2,hw2⟩:=eZ (w1.alloc (.cells #[.int .i64 1,.slice a es.length cp] 108));have hb2:=bAl hw2;have hbx:=iNw hw2 hB1;have hs1:B1=B+1:=by rw[←hB1,←hw1,←hB];simp
  have hs2:w2.heap.size=B+2:=by rw[←hw2];simp;omega
  have hb02:=hb1.trans (hb2.mono hb1.size);have hO1:yI.Own B w2 (.slice (some ⟨B,0,none⟩) 0 0) []:=by
   have:=(Ely.Own.lit (Y:=yI) B w (by omega) B hB.symm)
   rw[show w.alloc (.cells #[] yI.t)=w1 from hw1]at this;exact this.below hb2
  have HSZ:=aA (aI hs1 hs2);have HBX:Hid (IsC w2 (B+1) #[.int .i64 1,.slice a es.length cp] 108):=by show IsC _ _ _ _;rw[←hs1];exact hbx
  clear hs1 hs2 hsl;go_wp2;go_loopw [5,7,8,9] (fun u i _ _ wr=>∃j:Nat,j≤es.length∧i=.int .i64 j∧ItR w2 B ((es.take j).map fun e=>(e.1,e.2.1)) u wr) (fun _ i _ _ _=>es.length -(intOf i).toNat)
  case atStart=>exact⟨0,by omega,rfl,⟨hO1,Frm.refl _ _⟩⟩
  case round=>
   obtain⟨j,hj,rfl,hR⟩:=hrel;have hbr:IsC wr B1 #[.int .i64 1,.slice a es.length cp] 108:=hbx.frm hR.frm (by have:=HSZ.out;omega);have b0:wr.cell? ⟨B1,0,none⟩=some (.int .i64 1):=hbr.c rfl;have b1:wr.cell? ⟨B1,1,none⟩=some (.slice a es.length cp):=hbr.c rfl;by_cases hlt:j<es.length
   ·obtain⟨g,o,c,he,hg,hcell⟩:=hpos (by omega)
    cases he
    have hgB:g≠B:=by omega
    obtain⟨x0,x1,_⟩:=hcell wr j ((hR.frm.block g (lL hg hb02.size) hgB).trans (hb02.block g hg)) hlt;have hji:(j:Int) <(es.length:Int):=by omega
    have hlen:((es.take j).map fun e:E3=>(e.1,e.2.1)).length<1000000:=by
     rw[List.length_map]at hfew ⊢;simp;omega
    have HS:Hid (((es.take (j+1)).map fun e:E3=>(e.1,e.2.1))=((es.take j).map fun e:E3=>(e.1,e.2.1))++[((es.getD j e0).1,(es.getD j e0).2.1)]):=by
     show _=_
     rw[cG es j e0 hlt,List.map_append];rfl
    have hsz:B≤wr.heap.size:=by have:=hR.frm.size;have:=HSZ.out;omega
    have hown:=hR.own;have HR:=aA hR;have hgl:g<B:=by omega
    have HJ1:Hid (j+1≤es.length):=hlt;have HKP:Hid (∀w' u' l',Below B wr w'→ItR w2 B l' u' w'→w'.cell? ⟨B1,1,none⟩=some (.slice (some ⟨g,o,none⟩) es.length cp)∧w'.cell? ⟨g,o+j*3,none⟩=some (.string (es.getD j e0).1)∧w'.cell? ⟨g,o+j*3+1,none⟩=some (.string (es.getD j e0).2.1)):=fun w' u' l' hb hI=>by
     have hbr':IsC w' B1 #[.int .i64 1,.slice (some ⟨g,o,none⟩) es.length cp] 108:=hbx.frm hI.frm (by have:=HSZ.out;omega);exact⟨hbr'.c rfl,(hb.cell (p:=⟨g,_,none⟩) hgl).trans x0,(hb.cell (p:=⟨g,_,none⟩) hgl).trans x1⟩
    generalize (es.getD j e0).1=kx at *;generalize (es.getD j e0).2.1=vx at *;generalize (es.take j).map (fun e:E3=>(e.1,e.2.1))=pre at *;clear hpos hcell hR hbr;go_wp2;go_region_held3 (fun W=>W.cell? ⟨B1,1,none⟩=some (.slice (some ⟨g,o,none⟩) es.length cp)∧W.cell? ⟨g,o+j*3,none⟩=some (.string kx)∧W.cell? ⟨g,o+j*3+1,none⟩=some (.string vx)) (first | assumption | go_keep) ((refine yI.stepApp1 (by rfl) _ _ (by rfl) hown (by rfl) (kx,vx) (by rfl) (by rfl) hlen hsz ?_;intro u' w5 k1 k2 k3;have hI5:=HR.out.app HBX.out HSZ.out.2 k1 k3;have hX5:=HKP.out w5 _ _ k2 hI5));rw[←HS.out]at hI5;clear hX5 k1 k3;go_wp2;go_roundw
    case rel=>exact⟨j+1,HJ1.out,by go_num,hI5⟩
    case measure=>have hj1:=HJ1.out;simp[intOf];omega
   ·obtain rfl:j=es.length:=by omega
    rw[List.take_of_length_le (nR _)]at hR;have HR:Hid (yI.Own w.heap.size wr u5 (es.map fun e:E3=>(e.1,e.2.1))∧Bl w wr):=⟨by rw[hB];exact hR.own,hb02.trans (hR.frm.below (by rw[hB];have:=HSZ.out;omega) fun k e=>by rw[e];omega)⟩;clear hpos hR hbr;go_wp2;go_ret;rw[←hB];exact⟨_,rfl,HR.out.1,HR.out.2⟩
 | h+1,b,lo,hi,w,hk,hN,hfew=>by
  obtain⟨es,hes,hnr,hne,h4,hkk⟩:=hk;have hle5:=hnr.le5;have hit:bU f.nodes (h+1) b=es.flatMap fun e=>bU f.nodes h (ch e):=aBB hes;rw[hit]at hfew ⊢;obtain⟨a,cp,hsl,hbA,_,c0,c1,_⟩:=hN.at hes;simp only at hsl c0 c1;have hbI:(b:Int) <(ns.length:Int):=by omega
  have hl0:0<es.length:=List.length_pos_iff.2 hne;obtain⟨g,o,c,he,hg,hcell⟩:=dZ hsl hl0;cases he;obtain⟨B,hB⟩:=eZ (w.heap.size);obtain⟨w1,hw1⟩:=eZ (w.alloc (.cells #[] 85));have hb1:=bAl hw1;obtain⟨B1,hB1⟩:=eZ (w1.heap.size);have c0':w1.cell? ⟨ga,b*2,none⟩=some (.int .i64 2):=(hb1.cell (p:=⟨ga,_,none⟩) hN.arr.lt).trans c0;have c1':w1.cell? ⟨ga,b*2+1,none⟩=some (.slice (some ⟨g,o,none⟩) es.length cp):=(hb1.cell (p:=⟨ga,_,none⟩) hN.arr.lt).trans c1;obtain⟨w2,hw2⟩:=eZ (w1.alloc (.cells #[.int .i64 2,.slice (some ⟨g,o,none⟩) es.length cp] 108));have hb2:=bAl hw2;have hbx:=iNw hw2 hB1;have hs1:B1=B+1:=by rw[←hB1,←hw1,←hB];simp
  have hs2:w2.heap.size=B+2:=by rw[←hw2];simp;omega
  have hb02:=hb1.trans (hb2.mono hb1.size);have hO1:yI.Own B w2 (.slice (some ⟨B,0,none⟩) 0 0) []:=by
   have:=(Ely.Own.lit (Y:=yI) B w (by omega) B hB.symm)
   rw[show w.alloc (.cells #[] yI.t)=w1 from hw1]at this;exact this.below hb2
  have HSZ:=aA (aI hs1 hs2);have HBX:Hid (IsC w2 (B+1) #[.int .i64 2,.slice (some ⟨g,o,none⟩) es.length cp] 108):=by show IsC _ _ _ _;rw[←hs1];exact hbx
  have hgB:g≠B:=by omega
  have hgaB:ga≠B:=by have:=hN.arr.lt;omega
  have HN2:Hid (∀wr,Frm (fun k=>k=B) w2 wr→iZ wr ga ns nj f.nodes):=fun wr hF=>by
   refine(hN.below hb02).frm hF (fun g' cs hg'=>?_) hgaB;intro e;rw[e]at hg';have:IsC w2 B #[] 85:=by
    have h1:=iNw hw1 hB;exact h1.of (hb2.block _ h1.lt)
   exact hg'.type_ne this (by decide) rfl
  clear hs1 hs2 hsl;go_enter Tryz.func44,Tryz.ntmps44;go_wp2;go_loopw [5,7,8,9] (fun u i _ _ wr=>∃j:Nat,j≤es.length∧i=.int .i64 j∧ItR w2 B ((es.take j).flatMap fun e=>bU f.nodes h (ch e)) u wr) (fun _ i _ _ _=>es.length -(intOf i).toNat)
  case atStart=>exact⟨0,by omega,rfl,⟨hO1,Frm.refl _ _⟩⟩
  case round=>
   obtain⟨j,hj,rfl,hR⟩:=hrel;have hbr:IsC wr B1 #[.int .i64 2,.slice (some ⟨g,o,none⟩) es.length cp] 108:=hbx.frm hR.frm (by have:=HSZ.out;omega);have b0:wr.cell? ⟨B1,0,none⟩=some (.int .i64 2):=hbr.c rfl;have b1:wr.cell? ⟨B1,1,none⟩=some (.slice (some ⟨g,o,none⟩) es.length cp):=hbr.c rfl;by_cases hlt:j<es.length
   ·obtain⟨_,_,x2⟩:=hcell wr j ((hR.frm.block g (lL hg hb02.size) hgB).trans (hb02.block g hg)) hlt
    have hji:(j:Int) <(es.length:Int):=by omega
    have hcp:=hI.child_pos hes hlt;have hcc:(es.getD j e0).2.2=(kd es j:Int):=by unfold kd ch;omega
    rw[hcc]at x2;have hN5:=HN2.out wr hR.frm;have hsub:es.flatMap (fun e=>bU f.nodes h (ch e))=(es.take j).flatMap (fun e=>bU f.nodes h (ch e))++(bU f.nodes h (kd es j)++(es.drop (j+1)).flatMap (fun e=>bU f.nodes h (ch e))):=tV es _ hlt;have hl1:=congrArg List.length hsub;rw[lP,lP]at hl1;have HIH:=aA (pI hI ga ns nj h (kd es j) _ _ wr (hkk j hlt).2 hN5 (by omega));have HS:Hid ((es.take (j+1)).flatMap (fun e=>bU f.nodes h (ch e))=(es.take j).flatMap (fun e=>bU f.nodes h (ch e))++bU f.nodes h (kd es j)):=by
     show _=_
     rw[cG es j e0 hlt,List.flatMap_append];simp;rfl
    have hlen:((es.take j).flatMap fun e=>bU f.nodes h (ch e)).length+(bU f.nodes h (kd es j)).length≤100000:=by omega
    obtain⟨w5,hw5⟩:∃w5,w5=wr:=⟨_,rfl⟩;have hsz5:B≤wr.heap.size:=by have:=hR.frm.size;have:=HSZ.out;omega
    generalize bU f.nodes h (kd es j)=bl at *;generalize (es.take j).flatMap (fun e=>bU f.nodes h (ch e))=pre at *;have HJ1:Hid (j+1≤es.length):=hlt;have HW5:=aA hw5;clear hcell hsub hl1 hw5 hbr hcc hcp hkk;go_wp2_with fail;refine HIH.out.mono ?_;rintro r w6 ⟨u2,rfl,hu2,hb6⟩;obtain⟨ua,uc,rfl⟩:=hu2.sl.len;have hIn:InR w2 w6 B wr.heap.size pre u5 w6:=by
     obtain⟨ag,junk,q1,q2,q3⟩:=hR.own;exact⟨⟨ag,junk,q1,q2.frm (Frm.of_below (S:=fun _=>False) hb6) fun _ _=>id,fun g' e=>⟨q3 g' e,.inl (q2.arr g' e).lt⟩⟩,hR.frm.trans (Frm.of_below hb6),nR _,fun _ _ _=>rfl⟩
    have HU2:=aA hu2;have hs56:wr.heap.size≤w6.heap.size:=hb6.size;obtain⟨W5,hW5⟩:=eZ (wr.heap.size);rw[hW5]at hIn hs56;have HU3:Hid (yI.Own W5 w6 (.slice ua bl.length uc) bl):=by show yI.Own _ _ _ _;rw[←hW5];exact hu2
    clear hu2 hR hW5 hN5 HU2;go_wp2;go_loopw [5,9] (fun u i wx=>∃m:Nat,m≤bl.length∧i=.int .i64 m∧InR w2 w6 B W5 (pre++bl.take m) u wx) (fun _ i _=>bl.length -(intOf i).toNat)
    case atStart=>exact⟨0,by omega,rfl,by simpa using hIn⟩
    case round=>
     obtain⟨m,hm,rfl,hR⟩:=hrel;by_cases hlt2:m<bl.length
     ·obtain⟨ag,junk,rfl,q1,q2⟩:=id hR.own
      obtain⟨g3,o3,c3,he3,hg3,hcell3⟩:=aKR HU3.out.sl (by omega);cases he3;have hg5:W5≤g3:=by
       obtain⟨a3,j3,e3,_,e4⟩:=HU3.out;cases a3 with
       | none=>simp[adr]at e3
       | some g4=>
        simp only[adr,Option.map_some,Value.slice.injEq,sJ,Addr.mk.injEq]at e3;have:=e4 g4 rfl;omega
      obtain⟨y0,y1⟩:=hcell3 wr m (hR.keep g3 hg5 hg3) hlt2;have hmi:(m:Int) <(bl.length:Int):=by omega
      have hlen2:(pre++bl.take m).length<1000000:=by simp;omega
      have HT:Hid (pre++bl.take (m+1)=pre++bl.take m++[((bl.getD m (.empty,.empty)).1,(bl.getD m (.empty,.empty)).2)]):=by
       show _=_
       rw[cG bl m (ByteArray.empty,ByteArray.empty) hlt2,List.append_assoc]
      have hBw:B≤wr.heap.size:=lT (by have:=HSZ.out;omega) hR.frm.size;have HR:=aA hR;generalize (bl.getD m (.empty,.empty)).1=kx at *;generalize (bl.getD m (.empty,.empty)).2=vx at *;have HST:Hid (∀a' junk' w',yI.Rw w' a' (pre++bl.take m++[(kx,vx)]) junk'→(∀g,a'=some g→ag=some g∨wr.heap.size≤g)→Frm (fun k=>ag=some k) wr w'→InR w2 w6 B W5 (pre++bl.take (m+1)) (.slice (adr a') (pre++bl.take m++[(kx,vx)]).length ((pre++bl.take m++[(kx,vx)]).length+junk'.length)) w'):=fun a' junk' w' k1 k2 k3=>by
       rw[HT.out];exact HR.out.step HBX.out HSZ.out.2 q1 q2 k1 k2 k3 hBw
      generalize pre++bl.take m=pm at *;have HM1:Hid (m+1≤bl.length):=hlt2;clear hcell3 hR;go_wp2_with (first | (at_builtin;refine yI.wpApp1F rfl _ _ rfl q1 rfl (kx,vx) rfl rfl hlen2 ?_;intro a' junk' w7 k1 k2 k3;have hI7:=HST.out a' junk' w7 k1 k2 k3;clear HST) | go_in);go_roundw
      case rel=>
       have e9:(pm++[(kx,vx)]).length=pm.length+1:=by simp
       rw[e9]at hI7;exact⟨m+1,HM1.out,by go_num,hI7⟩
      case measure=>have hj1:=HM1.out;simp[intOf];omega
     ·obtain rfl:m=bl.length:=by omega
      rw[List.take_of_length_le (nR _),←HS.out]at hR;have HI:Hid (ItR w2 B ((es.take (j+1)).flatMap fun e=>bU f.nodes h (ch e)) u5 wr):=by
       obtain⟨ag,junk,q0,q1,q2⟩:=hR.own;exact⟨⟨ag,junk,q0,q1,fun g' e=>(q2 g' e).1⟩,hR.frm⟩
      clear hR;go_wp2;go_roundw
      case rel=>exact⟨j+1,HJ1.out,by go_num,HI.out⟩
      case measure=>have hj1:=HJ1.out;simp[intOf];omega
   ·obtain rfl:j=es.length:=by omega
    rw[List.take_of_length_le (nR _)]at hR;have HR:Hid (yI.Own w.heap.size wr u5 (es.flatMap fun e=>bU f.nodes h (ch e))∧Bl w wr):=⟨by rw[hB];exact hR.own,hb02.trans (hR.frm.below (by rw[hB];have:=HSZ.out;omega) fun k e=>by rw[e];omega)⟩;clear hR hbr;go_wp2;go_ret;rw[←hB];exact⟨_,rfl,HR.out.1,HR.out.2⟩
def uE(o:OB):Value:=match o with
 | none=>.tuple #[.string .empty,.bool false]
 | some v=>.tuple #[.string v,.bool true]
theorem aIC{l:List (ByteArray×ByteArray)}{key:ByteArray}{j:Nat}(hj:j<l.length)(h:∀x,x<j→(l.getD x (.empty,.empty)).1≠key)(he:(l.getD j (.empty,.empty)).1=key):eW l key=some (l.getD j (.empty,.empty)).2:=by
 induction l generalizing j with
 | nil=>simp at hj
 | cons a l ih=>
  unfold eW;rw[List.find?_cons];cases j with
  | zero=>
   have:(a.1.toList == key.toList)=true:=by rw[show a.1=key from he];exact beq_self_eq_true _
   rw[this];rfl
  | succ j=>
   have:(a.1.toList == key.toList)=false:=by
    rw[beq_eq_false_iff_ne];intro e;exact h 0 (by omega) (gP e)
   rw[this];exact ih (j:=j) (by simpa using hj) (fun x hx=>h (x+1) (by omega)) he
theorem aFV{l:List (ByteArray×ByteArray)}{key:ByteArray}(h:∀x,x<l.length→(l.getD x (.empty,.empty)).1≠key):eW l key=none:=by
 unfold eW;have:l.find? (fun p=>p.1.toList == key.toList)=none:=by
  rw[List.find?_eq_none];intro p hp;obtain⟨j,hj,rfl⟩:=List.getElem_of_mem hp;have:=h j hj;rw[gD,gE hj]at this;intro e;exact this (gP (by simpa using e))
 rw[this];rfl
theorem pE{f:fZ}(hI:IC f){t H:Nat}(ht:t<f.roots.length)(hk:Ok f.nodes H (aB f t) none none)(key:ByteArray)(w:World)(S:Nat)(A:SA)(hS:Sp w S A f):
  Calls Tryz.prog 68 #[.pointer (some ⟨S,0,none⟩),.int .i64 t,.string key] w fun r w'=>r=.returned (uE (Fo.find f.nodes H (aB f t) key))∧Bl w w':=by
 rw[tQ hk];have hfew:=aDN hI hk;obtain⟨_,s1,s2,_⟩:=hS.cells;obtain⟨_,r1⟩:=hS.v.root ht;have h0:0≤(f.roots.getD t (0,0)).2:=(hI.rb _ (aP ht)).1;have hrb:(f.roots.getD t (0,0)).2=(aB f t:Int):=by unfold aB;omega
 rw[hrb]at r1;have htI:(t:Int) <(f.roots.length:Int):=by omega
 have HIT:=aA ((pI hI A.ga A.ns A.nj H (aB f t) none none w.drew hk hS.drew.v.nds (by omega)).mono (R':=fun r w1=>∃u,r=.returned u∧yI.Sl w1 u (bU f.nodes H (aB f t))∧Bl w w1) fun r w1 hw=>by
  obtain⟨u,h1,h2,h3⟩:=hw;exact⟨u,h1,h2.sl,(bQ _ w).drew.trans h3⟩)
 generalize bU f.nodes H (aB f t)=l at *;have HS:=aA hS;have HR1:Hid (∀w1,Bl w w1→w1.cell? ⟨S,1,none⟩=some (.slice (some ⟨A.ga,0,none⟩) A.ns.length (A.ns.length+A.nj.length))∧w1.cell? ⟨S,2,none⟩=some (.slice (some ⟨A.gr,0,none⟩) f.roots.length (f.roots.length+A.rj.length))∧w1.cell? ⟨A.gr,t*2+1,none⟩=some (.int .i64 (aB f t))):=fun w1 hb=>⟨(hS.below hb).cells.2.1,(hS.below hb).cells.2.2.1,by rw[((hS.below hb).v.root ht).2,hrb]⟩;clear hrb h0;go_enter Tryz.func68,Tryz.ntmps68;go_wp2;go_region_held3 (fun W=>W.cell? ⟨S,1,none⟩=some (.slice (some ⟨A.ga,0,none⟩) A.ns.length (A.ns.length+A.nj.length))∧W.cell? ⟨S,2,none⟩=some (.slice (some ⟨A.gr,0,none⟩) f.roots.length (f.roots.length+A.rj.length))∧W.cell? ⟨A.gr,t*2+1,none⟩=some (.int .i64 (aB f t))) (first | assumption | go_keep) ((go_at_call 44;refine HIT.out.mono ?_;rintro r w1 ⟨u,rfl,hsl,hb1⟩;have hX:=HR1.out w1 hb1;obtain⟨ua,uc,rfl⟩:=hsl.len));have hpos:0<l.length→_:=fun h=>aKR hsl h;clear hX;go_wp2;go_loopw [9] (fun i wr=>∃j:Nat,j≤l.length∧i=.int .i64 j∧Is2 (.bool false) (.bool false) wr w1∧Hid (∀x,x<j→(l.getD x (.empty,.empty)).1≠key)) (fun i _=>l.length -(intOf i).toNat)
 case atStart=>exact⟨0,by omega,rfl,⟨rfl,rfl⟩,fun x hx=>by omega⟩
 case round=>
  obtain⟨j,hj,rfl,⟨_,hwr⟩,hall⟩:=hrel;subst hwr;by_cases hlt:j<l.length
  ·obtain⟨g,o,c,he,hg,hcell⟩:=hpos (by omega)
   cases he
   obtain⟨x0,x1⟩:=hcell wr j rfl hlt;have hji:(j:Int) <(l.length:Int):=by omega
   by_cases he:(l.getD j (.empty,.empty)).1=key
   ·have HL:Hid (uE (eW l key)=.tuple #[.string (l.getD j (.empty,.empty)).2,.bool true]):=by show uE _=_;rw[aIC hlt hall.out he];rfl
    have hq:((l.getD j (.empty,.empty)).1.toList == key.toList)=true:=by rw[he];exact beq_self_eq_true _
    clear hpos hcell hall he;generalize (l.getD j (.empty,.empty)).1=x at *;generalize (l.getD j (.empty,.empty)).2=y at *;go_wp2;refine bodyPost_ret (v:=.tuple #[.string y,.bool true]) (by simp[results,Tryz.f68,go_sem]) rfl ?_;exact⟨by rw[HL.out],hb1⟩
   ·have hq:((l.getD j (.empty,.empty)).1.toList == key.toList)=false:=by rw[beq_eq_false_iff_ne];exact fun e=>he (gP e)
    have HA:Hid (∀x,x<j+1→(l.getD x (.empty,.empty)).1≠key):=fun x hx=>by
     by_cases e:x=j
     ·rw[e];exact he
     ·exact hall.out x (by omega)
    clear hpos hcell hall he;generalize (l.getD j (.empty,.empty)).1=x at *;go_wp2;go_roundw
    case rel=>exact⟨j+1,by omega,by go_num,⟨rfl,rfl⟩,HA.out⟩
    case measure=>simp[intOf];omega
  ·obtain rfl:j=l.length:=by omega
   have HL:Hid (uE (eW l key)=.tuple #[.string .empty,.bool false]):=by show uE _=_;rw[aFV hall.out];rfl
   clear hpos hall;go_wp2;refine bodyPost_ret (v:=.tuple #[.string .empty,.bool false]) (by simp[results,Tryz.f68,go_sem];try rfl) rfl ?_;exact⟨by rw[HL.out],hb1⟩
theorem sL(c:List Int):∀k,iQ c k≤k
 | 0=>nR _
 | k+1=>by
  have:=sL c k
  unfold iQ;split<;>omega
def woT(l:List (Int×Int))(i:Nat)(j:Nat):List (Int×Int):=if j≤i then l.take j else delE (l.take j) i
theorem aGD(l:List (Int×Int))(i j:Nat)(hlt:j<l.length):woT l i (j+1)=if j=i then woT l i j else woT l i j++[l.getD j (0,0)]:=by
 have ht:=cG l j (0,0) hlt;unfold woT;by_cases q:j=i
 ·subst q
  rw[if_pos rfl,if_neg (by omega),if_pos (nR _),ht];unfold delE;have hlj:(l.take j).length=j:=by simp;omega
  rw[List.take_left' hlj,List.drop_of_length_le (by simp;omega)];simp
 ·rw[if_neg q]
  by_cases q2:j<i
  ·rw[if_pos (by omega),if_pos (by omega),ht]
  ·rw[if_neg (by omega),if_neg (by omega),ht]
   unfold delE;rw[List.take_append_of_le_length (by simp;omega),List.drop_append_of_le_length (by simp;omega)];simp
theorem Sp.newRoots{w:World}{S:Nat}{A:SA}{f g:fZ}(h:Sp w S A f){gr:Nat}{rj:List (Int×Int)}(hg:IsC w gr (yT.row (g.roots++rj)) 77)(hrs:g.roots.length+rj.length≤maxLen)(hn:∀b d,g.nodes b=some d→f.nodes b=some d)(hl:g.cur.length=f.cur.length)(h1:g.next=f.next)(h2:g.gen=f.gen)(h3:g.com=f.com):
  Sp (w.setCell ⟨S,2,none⟩ (.slice (some ⟨gr,0,none⟩) g.roots.length (g.roots.length+rj.length))) S {A with gr:=gr,rj:=rj} g:=by
 have hF:Frm (fun k=>k=S) w (w.setCell ⟨S,2,none⟩ (.slice (some ⟨gr,0,none⟩) g.roots.length (g.roots.length+rj.length))):=Frm.set (S:=fun k=>k=S) w (p:=⟨S,2,none⟩) rfl _;refine⟨?_,(h.v.nds.frm hF (fun g cs k=>k.type_ne h.box (by decide)) (h.v.nds.arr.type_ne h.box (by decide))).sub hn,by show A.ns.length=_;rw[hl];exact h.v.ln,hg.frm hF (hg.type_ne h.box (by decide)),hrs,by rw[h3];exact h.v.com.frm hF fun g cs k=>k.type_ne h.box (by decide)⟩;have:=h.box.set 2 (.slice (some ⟨gr,0,none⟩) g.roots.length (g.roots.length+rj.length));have e:(aL A f).setIfInBounds 2 (.slice (some ⟨gr,0,none⟩) g.roots.length (g.roots.length+rj.length))=aL {A with gr:=gr,rj:=rj} g:=by
  unfold aL;rw[hl,h1,h2];rfl
 rw[e]at this;exact this
structure ZcP(w:World)(S:Nat)(A:SA)(g:fZ)(w':World):Prop where
 ex:∃A',Sp w' S A' g∧A'.tv=A.tv
 frm:Frm (fun k=>k=S∨k=A.ga∨k=A.gr) w w'
theorem aCE{f g:fZ}(hf:CtS f)(hg:CtS g){t:Nat}(ht:t<f.roots.length)(h1:1<f.roots.length)(hr:g.roots=delE f.roots t)(hn:∀b d,g.nodes b=some d→f.nodes b=some d)(hl:g.cur.length=f.cur.length)(hx:g.next=f.next)(hgen:g.gen=f.gen)(hcom:g.com=f.com)(w:World)(S:Nat)(A:SA)(hS:Sp w S A f):
  Calls Tryz.prog 67 #[.pointer (some ⟨S,0,none⟩),.int .i64 t] w fun r w'=>r=.returned (.tuple #[.int .i64 ((fB f.nodes f.cur.length:Int) -(fB g.nodes f.cur.length:Int)),.int .i64 0])∧ZcP w S A g w':=by
 have h8:=hf.ic.n8;have h5:=hf.ic.n512;have hr16:=hf.r16;obtain⟨_,_,s2,_⟩:=hS.cells;have hne:((f.roots.length:Int) == 1)=false:=by rw[beq_eq_false_iff_ne];omega
 have HC:=aA ((fR hf.ic hf.k hf.ent w S A hS (by omega)).mono (R':=fun r w1=>∃u,r=.returned u∧y64.Sl w1 u f.cur∧Bl w w1) fun r w1 hw=>by
  obtain⟨u,q1,q2,q3⟩:=hw;exact⟨u,q1,q2.sl,q3⟩)
 have HLF:=aA (rO hf.ic);have HLG:=aA (rO hg.ic);have HS:=aA hS;have hrl:g.roots.length=f.roots.length-1:=by rw[hr];exact bI _ _ ht
 have HRL:=aA (aI hr hrl);have HGL:=aA hl;clear hr hrl hl;go_enter Tryz.func67,Tryz.ntmps67;go_wp2_with fail;refine HC.out.mono ?_;rintro r w1 ⟨u,rfl,hu,hb1⟩;go_wp2_with fail;refine(pQ u f.cur w1 hu h5 (by omega)).mono ?_;rintro r w1' ⟨rfl,hw1'⟩;rw[hw1'];have hS1:=HS.out.below hb1;obtain⟨_,_,t2,_⟩:=hS1.cells;have HB1:=aA hb1;have HS1:=aA hS1;obtain⟨pc,hpc⟩:=eZ (iQ f.cur f.cur.length);rw[hpc];have HPC:=aA hpc;clear hpc hw1' hu;go_wp2;go_loopw [7,8] (fun u i wr=>∃j:Nat,j≤f.roots.length∧i=.int .i64 j∧yT.Own w1.heap.size wr u (woT f.roots t j)∧Bl w1 wr) (fun _ i _=>f.roots.length -(intOf i).toNat)
 case atStart=>exact⟨0,by omega,rfl,Ely.Own.lit _ _ (nR _) _ (by omega),(bQ _ _).alloc (nR _) _⟩
 case round=>
  obtain⟨j,hj,rfl,hown,hb⟩:=hrel;have hsz:=hb.size;have hSr:=HS1.out.below hb;obtain⟨_,_,t2',_⟩:=hSr.cells;by_cases hlt:j<f.roots.length
  ·obtain⟨x0,x1⟩:=hSr.v.root hlt
   have hji:(j:Int) <(f.roots.length:Int):=by omega
   have hlen:(woT f.roots t j).length<1000000:=by
    unfold woT;split
    ·simp;omega
    ·rw[bI _ _ (by simp;omega)];simp;omega
   have HW:=aA (aGD f.roots t j hlt);have HE:Hid (f.roots.getD j (0,0)=((f.roots.getD j (0,0)).1,(f.roots.getD j (0,0)).2)):=rfl;rw[HE.out]at HW;generalize (f.roots.getD j (0,0)).1=xa at *;generalize (f.roots.getD j (0,0)).2=xb at *;generalize woT f.roots t j=pre at *;clear hSr HE;by_cases q:j=t
   ·have q':((j:Int) ==(t:Int))=true:=by simp[q]
    rw[if_pos q]at HW;clear q;go_wp2;go_roundw
    case rel=>exact⟨j+1,by omega,by go_num,by rw[HW.out];exact hown,hb⟩
    case measure=>simp[intOf];omega
   ·have q':((j:Int) ==(t:Int))=false:=by rw[beq_eq_false_iff_ne];omega
    rw[if_neg q]at HW;clear q;go_wp2_with (first | (at_builtin;refine yT.wpApp1 rfl _ _ rfl hown rfl (xa,xb) rfl rfl hlen hsz ?_;intro u' w5 k1 k2 k3) | go_in);rw[←HW.out]at k1;go_roundw
    case rel=>exact⟨j+1,by omega,by go_num,k1,hb.trans k2⟩
    case measure=>simp[intOf];omega
  ·obtain rfl:j=f.roots.length:=by omega
   have e1:woT f.roots t f.roots.length=g.roots:=by unfold woT;rw[if_neg (by omega),HRL.out.1];simp
   rw[e1]at hown;obtain⟨ag,rj,rfl,hrw,hbs⟩:=hown;have hgl:0<g.roots.length:=by rw[HRL.out.2];omega
   obtain⟨gr,rfl⟩:∃gr,ag=some gr:=by
    cases ag with
    | none=>have:=(hrw.nil rfl).1;rw[this]at hgl;simp at hgl
    | some x=>exact⟨x,rfl⟩
   simp only[adr,Option.map_some];have hS2:=hSr.newRoots (g:=g) (hrw.arr gr rfl) hrw.small hn HGL.out hx hgen hcom;obtain⟨w3,hw3⟩:=eZ (wr.setCell ⟨S,2,none⟩ (.slice (some ⟨gr,0,none⟩) g.roots.length (g.roots.length+rj.length)));rw[hw3]at hS2;have z2:=hSr.box.frozen 2;have hF3:Frm (fun k=>k=S) wr w3:=by rw[←hw3];exact Frm.set (S:=fun k=>k=S) wr (p:=⟨S,2,none⟩) rfl _
   have HC2:=aA ((fR hg.ic hg.k hg.ent w3 S _ hS2 (by have:=hg.r16;omega)).mono (R':=fun r w1=>∃u,r=.returned u∧y64.Sl w1 u g.cur∧Bl w3 w1) fun r w1 hw=>by
    obtain⟨u,q1,q2,q3⟩:=hw;exact⟨u,q1,q2.sl,q3⟩)
   have HS2:=aA hS2;have HFF:Hid (Frm (fun k=>k=S∨k=A.ga∨k=A.gr) w w3):=((Frm.of_below HB1.out).trans ((Frm.of_below hb).wide (S:=fun _=>False) fun _ _ e=>e.elim)).trans (hF3.wide fun _ _ e=>.inl e);clear hS2 hrw hbs hSr hF3;go_wp2_with fail;refine HC2.out.mono ?_;rintro r w4 ⟨u,rfl,hu,hb4⟩;go_wp2_with fail;refine(pQ u g.cur w4 hu (by rw[HGL.out];exact h5) (by rw[HGL.out];omega)).mono ?_;rintro r w4' ⟨rfl,hw4'⟩;rw[hw4'];obtain⟨pg,hpg⟩:=eZ (iQ g.cur g.cur.length);rw[hpg];have hb1':pc≤512∧pg≤512:=by
    have e1:=sL f.cur f.cur.length;have e2:=sL g.cur g.cur.length;rw[HPC.out]at e1;rw[hpg,HGL.out]at e2;omega
   have hwp:IntKind.i64.wrap ((pc:Int) -(pg:Int))=(pc:Int) -(pg:Int):=IntWalk.i64_in _ ⟨by omega,by omega⟩;have HZ:Hid (ZcP w S A g w4):=⟨⟨_,HS2.out.below hb4,rfl⟩,HFF.out.trans (Frm.of_below hb4)⟩;have HE:Hid ((fB f.nodes f.cur.length:Int) -(fB g.nodes f.cur.length:Int)=(pc:Int) -(pg:Int)):=by
    show _=_
    rw[←HLF.out,HPC.out,←HGL.out,←HLG.out,hpg]
   clear hu hw4' hpg;go_wp2;refine bodyPost_ret (v:=.tuple #[.int .i64 ((pc:Int) -(pg:Int)),.int .i64 0]) (by simp[results,Tryz.f67,go_sem]) rfl ?_;exact⟨by rw[HE.out],HZ.out⟩
