import Derived.Test.YtaahkgkdpnnhhaaGreatSq9
set_option maxHeartbeats 9999999
set_option maxRecDepth 99999
set_option linter.all false
namespace Go.Proofs.YtaahkgkdpnnhhaaGreat
open Go.RowKit Fo
variable{a:Act}{K:Act→World→Prop}{ops:Array Oper}{cs vs:Array Value}{key:ByteArray}{Q:Exit→Act→World→Prop}{l l':List (ByteArray×ByteArray)}{rj:List (Int×Int)}{B B1 B2 B3 S gr t:Nat}{o:Oper}{P:Program}{A:SA}{α:Type}{NS RS cv gn n nv nx rv tv u:Value}{w w' wr:World}{f g:fZ}
theorem pV(s x:Operand)(t tn:TypeId)
  (ho:o.op=.call {callee:=.builtin .append,args:=#[s,x],argTypes:=#[t,tn]}) (vs vx:Value) (hs:a.eval s=vs) (hx:a.eval x=vx)
  (v':Value) (w':World) (hr:(Builtin.append_ #[t,tn] o.type #[vs,vx]).run P w=.ok v' w') (h:K (a.put o.dst v') w'):Oper.wp P o a w K Q:=by
 unfold Oper.wp execOp;simp only[ho,resolve,invoke,builtin,Sem.run_bind,Sem.run_pure,Result.andThen_ok,List.map_toArray,List.map_cons,List.map_nil,hs,hx,hr];exact h
theorem Ely.stepApp1(Y:Ely α){E:Prop}(ik:o.guard=none)(s x:Operand)
  (ho:o.op=.call {callee:=.builtin .append,args:=#[s,x],argTypes:=#[Y.s,Y.s]})
  {base:Nat} {w:World} {u:Value} {l:List α} (ap:Y.Own base w u l) (hs:a.eval s=u) (e:α) {cs:Array Value} (hc:cs=(Y.cell e).toArray) (hx:a.eval x=.slice (some ⟨w.heap.size,0,none⟩) 1 1) (hl:l.length<1000000) (hb:base≤w.heap.size)
  (h:∀u' w',Y.Own base w' u' (l++[e])→Below base w w'→Frm (fun k=>base≤k∧∃cs,IsC w k cs Y.t) w w'→K (a.put o.dst u') w'):
  if Region.wanted o (yielded ops a.tmps)=true then Oper.wp Tryz.prog o a (w.alloc (.cells cs Y.t)).drew K Q else E:=by
 rw[if_pos (by simp[Region.wanted,ik])];subst hc;have hB:=((bQ w.heap.size w).alloc (nR _) (.cells (Y.cell e).toArray Y.t)).drew;have Rz:Y.Sl (w.alloc (.cells (Y.cell e).toArray Y.t)).drew (.slice (some ⟨w.heap.size,0,none⟩) 1 1) [e]:=(Ely.Sl.new w e rfl).below (bQ _ _).drew;have sd:=ap.below hB;obtain⟨ag,junk,rfl,h1,h2⟩:=sd;obtain⟨u',W',a',junk',hr,rfl,k1,k2,k3⟩:=Y.append ag l junk [e] _ _ h1 Rz (by simp;omega);have bd:w.heap.size≤(w.alloc (.cells (Y.cell e).toArray Y.t)).drew.heap.size:=hB.size;have k5:Below base w W':=(hB.mono hb).trans (k3.below (lT hb bd) fun k e=>h2 k e);have k4:Frm (fun k=>base≤k∧∃cs,IsC w k cs Y.t) w W':=by
  refine⟨k5.os,k5.tape,k5.output,k5.size,fun k hk hn=>?_⟩;refine(k3.block k (lL hk bd) fun q=>hn ⟨h2 k q,Y.row (l++junk),?_⟩).trans (hB.block k hk);have:=h1.arr k q;unfold IsC at this ⊢;rw[←hB.block k hk];exact this
 refine pV _ _ _ _ ho _ _ hs hx _ _ (hr _) (h _ _ ⟨a',junk',by simp,k1,fun g e=>?_⟩ k5 k4);rcases k2 g e with q | q
 ·exact h2 g q
 ·omega
theorem Ely.wpApp1F(Y:Ely α){rest:List Oper}(ik:o.guard=none)(s x:Operand)
  (ho:o.op=.call {callee:=.builtin .append,args:=#[s,x],argTypes:=#[Y.s,Y.s]})
  {w:World} {ag:Option Nat} {l junk:List α} (ap:Y.Rw w ag l junk) (hs:a.eval s=.slice (adr ag) l.length (l.length+junk.length)) (e:α) {cs:Array Value} (hc:cs=(Y.cell e).toArray) (hx:a.eval x=.slice (some ⟨w.heap.size,0,none⟩) 1 1) (hl:l.length<1000000)
  (h:∀a' junk' w',Y.Rw w' a' (l++[e]) junk'→(∀g,a'=some g→ag=some g∨w.heap.size≤g)→Frm (fun k=>ag=some k) w w'→wpList Tryz.prog ops Q rest (a.put o.dst (.slice (adr a') (l++[e]).length ((l++[e]).length+junk'.length))) w'):
  wpList Tryz.prog ops Q (o :: rest) a (w.alloc (.cells cs Y.t)):=by
 subst hc;have hB:=(bQ w.heap.size w).alloc (nR _) (.cells (Y.cell e).toArray Y.t);have hF:Frm (fun k=>ag=some k) w (w.alloc (.cells (Y.cell e).toArray Y.t)):=Frm.of_below hB;have h1:=ap.frm (Frm.of_below (S:=fun _=>False) hB) fun _ _=>id;obtain⟨u',W',a',junk',hr,rfl,k1,k2,k3⟩:=Y.append ag l junk [e] _ _ h1 (Ely.Sl.new w e rfl) (by simp;omega);have:=h a' junk' W' k1 (fun g q=>(k2 g q).imp id fun q=>lT hB.size q) (hF.trans k3);refine cG ik _ _ _ _ ho _ _ hs hx _ _ (hr _) ?_;simpa using this
def aKX(p:ByteArray×ByteArray):List Value:=[.string p.1,.string p.2]
def yI:Ely (ByteArray×ByteArray) where
 cell:=aKX
 n:=2
 z:=(.empty,.empty)
 zv:=.agg #[.string .empty,.string .empty]
 t:=85
 s:=40
 by':=32
 hn:=fun _=>rfl
 hp:=by omega
 one:=fun a v hv=>by simp only[aKX,List.mem_cons,List.not_mem_nil,or_false]at hv;rcases hv with rfl | rfl<;>rfl
 hz:=by kernel_rfl
 us:=Tryz.underlying40
 hb:=by omega
 info:=rS (by kernel_rfl)
theorem aGB(W:World)(k v:ByteArray):(Instr.build 85 #[(0,.string k),(1,.string v)]).run Tryz.prog W=.ok (.agg #[.string k,.string v]) W:=by kernel_rfl
structure ItR(w:World)(B:Nat)(l:List (ByteArray×ByteArray))(u:Value)(wr:World):Prop where
 own:yI.Own B wr u l
 frm:Frm (fun k=>k=B) w wr
theorem ItR.app{u':Value}(h:ItR w B l u wr)(bj:IsC w (B+1) cs 108)(hs:w.heap.size=B+2)(ho:yI.Own B w' u' l')(hF:Frm (fun k=>B≤k∧∃cs,IsC wr k cs 85) wr w'):ItR w B l' u' w':=by
 refine⟨ho,⟨hF.os.trans h.frm.os,hF.tape.trans h.frm.tape,hF.output.trans h.frm.output,lT h.frm.size hF.size,fun k hk hn=>?_⟩⟩;refine(hF.block k (lL hk h.frm.size) fun q=>?_).trans (h.frm.block k hk hn);obtain⟨q1,cs',q2⟩:=q;have e:k=B+1:=by omega
 rw[e]at q2;exact(bj.frm h.frm (by omega)).type_ne q2 (by decide) rfl
structure InR(w w6:World)(B W5:Nat)(l:List (ByteArray×ByteArray))(u:Value)(wr:World):Prop where
 own:∃a junk,u=.slice (adr a) l.length (l.length+junk.length)∧yI.Rw wr a l junk∧∀g,a=some g→B≤g∧(g<W5∨w6.heap.size≤g)
 frm:Frm (fun k=>k=B) w wr
 sz:w6.heap.size≤wr.heap.size
 keep:∀k,W5≤k→k<w6.heap.size→wr.heap[k]?=w6.heap[k]?
theorem InR.step{w6:World}{W5:Nat}(h:InR w w6 B W5 l u wr)(bj:IsC w (B+1) cs 108)(hs:w.heap.size=B+2){a:Option Nat}{junk:List (ByteArray×ByteArray)}(h1:yI.Rw wr a l junk)(h2:∀g,a=some g→B≤g∧(g<W5∨w6.heap.size≤g)){a':Option Nat}{junk':List (ByteArray×ByteArray)}(k1:yI.Rw w' a' l' junk')(k2:∀g,a'=some g→a=some g∨wr.heap.size≤g)(k3:Frm (fun k=>a=some k) wr w')(Kf:B≤wr.heap.size):InR w w6 B W5 l' (.slice (adr a') l'.length (l'.length+junk'.length)) w':=by
 refine⟨⟨a',junk',rfl,k1,fun g e=>?_⟩,?_,lT h.sz k3.size,fun k q1 q2=>?_⟩
 ·rcases k2 g e with q | q
  ·exact h2 g q
  ·exact⟨by omega,.inr (lT h.sz q)⟩
 ·refine⟨k3.os.trans h.frm.os,k3.tape.trans h.frm.tape,k3.output.trans h.frm.output,lT h.frm.size k3.size,fun k hk hn=>?_⟩
  refine(k3.block k (lL hk h.frm.size) fun q=>?_).trans (h.frm.block k hk hn);have e:k=B+1:=by have:=(h2 k q).1;omega
  rw[e]at q;exact(bj.frm h.frm (by omega)).type_ne (h1.arr _ q) (by decide) rfl
 ·refine(k3.block k (lL q2 h.sz) fun q=>?_).trans (h.keep k q1 q2)
  have:=(h2 k q).2;omega
theorem aDK(h:yI.Sl w u l)(hl:0<l.length):∃g o c,u=.slice (some ⟨g,o,none⟩) l.length c∧g<w.heap.size∧∀(w':World) (i:Nat),(w'.heap[g]?=w.heap[g]?)→i<l.length→w'.cell? ⟨g,o+i*2,none⟩=some (.string (l.getD i (.empty,.empty)).1)∧w'.cell? ⟨g,o+i*2+1,none⟩=some (.string (l.getD i (.empty,.empty)).2):=by
 obtain⟨g,o,c,rfl,hg,hc⟩:=h.at hl;refine⟨g,o,c,rfl,hg,fun w' i he hi=>?_⟩;have hw:∀k,w'.cell? ⟨g,k,none⟩=w.cell? ⟨g,k,none⟩:=fun k=>by simp[World.cell?,he]
 exact⟨(hw _).trans (hc i 0 hi (by decide)),(hw _).trans (hc i 1 hi (by decide))⟩
theorem rU{nodes:Nat→Option Nd}{h b:Nat}{es:List E3}{k:Int}(af:nodes b=some (k,es)):aS nodes (h+1) b=es.flatMap fun e=>aS nodes h (ch e):=by
 show(mJ nodes b).flatMap _=_
 rw[cH af]
theorem kY(hI:IC f)(ga:Nat)(ns nj:List NV):
  ∀(h b:Nat) (lo hi:OB) (w:World),Ok f.nodes h b lo hi→iX w ga ns nj f.nodes→(aS f.nodes h b).length≤100000→
   Calls Tryz.prog 44 #[.slice (some ⟨ga,0,none⟩) ns.length (ns.length+nj.length),.int .i64 b] w fun r w'=>∃u,r=.returned u∧yI.Own w.heap.size w' u (aS f.nodes h b)∧Bl w w'
 | 0,b,lo,hi,w,hk,hN,Bb=>by
  have DN:=aGB;obtain⟨es,af,so,hc⟩:=hk;have Q5:aS f.nodes 0 b=es.map fun e=>(e.1,e.2.1):=by unfold aS;rw[cH af]
  rw[Q5]at Bb ⊢;have RI:=so.le5;obtain⟨a,cp,eS,xk,_,c0,c1,_⟩:=hN.at af;simp only at eS c0 c1;have E6:(b:Int) <(ns.length:Int):=by omega
  have cg:0<es.length→_:=fun h=>dZ eS h;obtain⟨B,hB⟩:=eZ (w.heap.size);obtain⟨w1,bh⟩:=eZ (w.alloc (.cells #[] 85));have ao:=bAl bh;obtain⟨B1,eX⟩:=eZ (w1.heap.size);have c0':w1.cell? ⟨ga,b*2,none⟩=some (.int .i64 1):=(ao.cell (p:=⟨ga,_,none⟩) hN.arr.lt).trans c0;have c1':w1.cell? ⟨ga,b*2+1,none⟩=some (.slice a es.length cp):=(ao.cell (p:=⟨ga,_,none⟩) hN.arr.lt).trans c1;go_enter Tryz.func44,Tryz.ntmps44;obtain⟨w2,ci⟩:=eZ (w1.alloc (.cells #[.int .i64 1,.slice a es.length cp] 108));have ba:=bAl ci;have bj:=iNw ci eX;have jx:B1=B+1:=by rw[←eX,←bh,←hB];simp
  have ti:w2.heap.size=B+2:=by rw[←ci];simp;omega
  have dz:=ao.trans (ba.mono ao.size);have DK:yI.Own B w2 (.slice (some ⟨B,0,none⟩) 0 0) []:=by
   have:=(Ely.Own.lit (Y:=yI) B w (by omega) B hB.symm)
   rw[show w.alloc (.cells #[] yI.t)=w1 from bh]at this;exact this.below ba
  have lh:=aA (aI jx ti);have Hv:Hid (IsC w2 (B+1) #[.int .i64 1,.slice a es.length cp] 108):=by show IsC _ _ _ _;rw[←jx];exact bj
  clear jx ti eS;go_wp2;go_loopw [5,7,8,9] (fun u i _ _ wr=>∃j:Nat,j≤es.length∧i=.int .i64 j∧ItR w2 B ((es.take j).map fun e=>(e.1,e.2.1)) u wr) (fun _ i _ _ _=>es.length -(intOf i).toNat)
  case atStart=>exact⟨0,by omega,rfl,⟨DK,Frm.refl _ _⟩⟩
  case round=>
   obtain⟨j,hj,rfl,hR⟩:=hrel;have qo:IsC wr B1 #[.int .i64 1,.slice a es.length cp] 108:=bj.frm hR.frm (by have:=lh.out;omega);have b0:wr.cell? ⟨B1,0,none⟩=some (.int .i64 1):=qo.c rfl;have b1:wr.cell? ⟨B1,1,none⟩=some (.slice a es.length cp):=qo.c rfl;by_cases ai:j<es.length
   ·obtain⟨g,o,c,he,hg,aa⟩:=cg (by omega)
    cases he
    have Kt:g≠B:=by omega
    obtain⟨x0,x1,_⟩:=aa wr j ((hR.frm.block g (lL hg dz.size) Kt).trans (dz.block g hg)) ai;have dm:(j:Int) <(es.length:Int):=by omega
    have ah:((es.take j).map fun e:E3=>(e.1,e.2.1)).length<1000000:=by
     rw[List.length_map]at Bb ⊢;simp;omega
    have HS:Hid (((es.take (j+1)).map fun e:E3=>(e.1,e.2.1))=((es.take j).map fun e:E3=>(e.1,e.2.1))++[((es.getD j e0).1,(es.getD j e0).2.1)]):=by
     show _=_
     rw[cC es j e0 ai,List.map_append];rfl
    have bd:B≤wr.heap.size:=by have:=hR.frm.size;have:=lh.out;omega
    have ap:=hR.own;have HR:=aA hR;have E9:g<B:=by omega
    have qk:Hid (j+1≤es.length):=ai;have O0:Hid (∀w' u' l',Below B wr w'→ItR w2 B l' u' w'→w'.cell? ⟨B1,1,none⟩=some (.slice (some ⟨g,o,none⟩) es.length cp)∧w'.cell? ⟨g,o+j*3,none⟩=some (.string (es.getD j e0).1)∧w'.cell? ⟨g,o+j*3+1,none⟩=some (.string (es.getD j e0).2.1)):=fun w' u' l' hb hI=>by
     have QK:IsC w' B1 #[.int .i64 1,.slice (some ⟨g,o,none⟩) es.length cp] 108:=bj.frm hI.frm (by have:=lh.out;omega);exact⟨QK.c rfl,(hb.cell (p:=⟨g,_,none⟩) E9).trans x0,(hb.cell (p:=⟨g,_,none⟩) E9).trans x1⟩
    generalize (es.getD j e0).1=kx at *;generalize (es.getD j e0).2.1=vx at *;generalize (es.take j).map (fun e:E3=>(e.1,e.2.1))=pre at *;clear cg aa hR qo;go_wp2;go_region_held3 (fun W=>W.cell? ⟨B1,1,none⟩=some (.slice (some ⟨g,o,none⟩) es.length cp)∧W.cell? ⟨g,o+j*3,none⟩=some (.string kx)∧W.cell? ⟨g,o+j*3+1,none⟩=some (.string vx)) (first | assumption | go_keep) ((refine yI.stepApp1 (by rfl) _ _ (by rfl) ap (by rfl) (kx,vx) (by rfl) (by rfl) ah bd ?_;intro u' w5 k1 k2 k3;have Pf:=HR.out.app Hv.out lh.out.2 k1 k3;have Io:=O0.out w5 _ _ k2 Pf));rw[←HS.out]at Pf;clear Io k1 k3;go_wp2;go_roundw
    case rel=>exact⟨j+1,qk.out,by go_num,Pf⟩
    case measure=>have Jk:=qk.out;simp[intOf];omega
   ·obtain rfl:j=es.length:=by omega
    rw[List.take_of_length_le (nR _)]at hR;have HR:Hid (yI.Own w.heap.size wr u5 (es.map fun e:E3=>(e.1,e.2.1))∧Bl w wr):=⟨by rw[hB];exact hR.own,dz.trans (hR.frm.below (by rw[hB];have:=lh.out;omega) fun k e=>by rw[e];omega)⟩;clear cg hR qo;go_wp2;go_ret;rw[←hB];exact⟨_,rfl,HR.out.1,HR.out.2⟩
 | h+1,b,lo,hi,w,hk,hN,Bb=>by
  obtain⟨es,af,so,av,h4,ow⟩:=hk;have RI:=so.le5;have Q5:aS f.nodes (h+1) b=es.flatMap fun e=>aS f.nodes h (ch e):=rU af;rw[Q5]at Bb ⊢;obtain⟨a,cp,eS,xk,_,c0,c1,_⟩:=hN.at af;simp only at eS c0 c1;have E6:(b:Int) <(ns.length:Int):=by omega
  have pf:0<es.length:=List.length_pos_iff.2 av;obtain⟨g,o,c,he,hg,aa⟩:=dZ eS pf;cases he;obtain⟨B,hB⟩:=eZ (w.heap.size);obtain⟨w1,bh⟩:=eZ (w.alloc (.cells #[] 85));have ao:=bAl bh;obtain⟨B1,eX⟩:=eZ (w1.heap.size);have c0':w1.cell? ⟨ga,b*2,none⟩=some (.int .i64 2):=(ao.cell (p:=⟨ga,_,none⟩) hN.arr.lt).trans c0;have c1':w1.cell? ⟨ga,b*2+1,none⟩=some (.slice (some ⟨g,o,none⟩) es.length cp):=(ao.cell (p:=⟨ga,_,none⟩) hN.arr.lt).trans c1;obtain⟨w2,ci⟩:=eZ (w1.alloc (.cells #[.int .i64 2,.slice (some ⟨g,o,none⟩) es.length cp] 108));have ba:=bAl ci;have bj:=iNw ci eX;have jx:B1=B+1:=by rw[←eX,←bh,←hB];simp
  have ti:w2.heap.size=B+2:=by rw[←ci];simp;omega
  have dz:=ao.trans (ba.mono ao.size);have DK:yI.Own B w2 (.slice (some ⟨B,0,none⟩) 0 0) []:=by
   have:=(Ely.Own.lit (Y:=yI) B w (by omega) B hB.symm)
   rw[show w.alloc (.cells #[] yI.t)=w1 from bh]at this;exact this.below ba
  have lh:=aA (aI jx ti);have Hv:Hid (IsC w2 (B+1) #[.int .i64 2,.slice (some ⟨g,o,none⟩) es.length cp] 108):=by show IsC _ _ _ _;rw[←jx];exact bj
  have Kt:g≠B:=by omega
  have Qm:ga≠B:=by have:=hN.arr.lt;omega
  have O3:Hid (∀wr,Frm (fun k=>k=B) w2 wr→iX wr ga ns nj f.nodes):=fun wr hF=>by
   refine(hN.below dz).frm hF (fun g' cs rf=>?_) Qm;intro e;rw[e]at rf;have:IsC w2 B #[] 85:=by
    have h1:=iNw bh hB;exact h1.of (ba.block _ h1.lt)
   exact rf.type_ne this (by decide) rfl
  clear jx ti eS;go_enter Tryz.func44,Tryz.ntmps44;go_wp2;go_loopw [5,7,8,9] (fun u i _ _ wr=>∃j:Nat,j≤es.length∧i=.int .i64 j∧ItR w2 B ((es.take j).flatMap fun e=>aS f.nodes h (ch e)) u wr) (fun _ i _ _ _=>es.length -(intOf i).toNat)
  case atStart=>exact⟨0,by omega,rfl,⟨DK,Frm.refl _ _⟩⟩
  case round=>
   obtain⟨j,hj,rfl,hR⟩:=hrel;have qo:IsC wr B1 #[.int .i64 2,.slice (some ⟨g,o,none⟩) es.length cp] 108:=bj.frm hR.frm (by have:=lh.out;omega);have b0:wr.cell? ⟨B1,0,none⟩=some (.int .i64 2):=qo.c rfl;have b1:wr.cell? ⟨B1,1,none⟩=some (.slice (some ⟨g,o,none⟩) es.length cp):=qo.c rfl;by_cases ai:j<es.length
   ·obtain⟨_,_,x2⟩:=aa wr j ((hR.frm.block g (lL hg dz.size) Kt).trans (dz.block g hg)) ai
    have dm:(j:Int) <(es.length:Int):=by omega
    have pp:=hI.child_pos af ai;have kz:(es.getD j e0).2.2=(kd es j:Int):=by unfold kd ch;omega
    rw[kz]at x2;have ix:=O3.out wr hR.frm;have ut:es.flatMap (fun e=>aS f.nodes h (ch e))=(es.take j).flatMap (fun e=>aS f.nodes h (ch e))++(aS f.nodes h (kd es j)++(es.drop (j+1)).flatMap (fun e=>aS f.nodes h (ch e))):=rJ es _ ai;have ee:=congrArg List.length ut;rw[lP,lP]at ee;have DV:=aA (kY hI ga ns nj h (kd es j) _ _ wr (ow j ai).2 ix (by omega));have HS:Hid ((es.take (j+1)).flatMap (fun e=>aS f.nodes h (ch e))=(es.take j).flatMap (fun e=>aS f.nodes h (ch e))++aS f.nodes h (kd es j)):=by
     show _=_
     rw[cC es j e0 ai,List.flatMap_append];simp;rfl
    have ah:((es.take j).flatMap fun e=>aS f.nodes h (ch e)).length+(aS f.nodes h (kd es j)).length≤100000:=by omega
    obtain⟨w5,sf⟩:∃w5,w5=wr:=⟨_,rfl⟩;have C5:B≤wr.heap.size:=by have:=hR.frm.size;have:=lh.out;omega
    generalize aS f.nodes h (kd es j)=bl at *;generalize (es.take j).flatMap (fun e=>aS f.nodes h (ch e))=pre at *;have qk:Hid (j+1≤es.length):=ai;have Xy:=aA sf;clear aa ut ee sf qo kz pp ow;go_wp2_with fail;refine DV.out.mono ?_;rintro r w6 ⟨u2,rfl,FK,ke⟩;obtain⟨ua,uc,rfl⟩:=FK.sl.len;have S3:InR w2 w6 B wr.heap.size pre u5 w6:=by
     obtain⟨ag,junk,q1,q2,q3⟩:=hR.own;exact⟨⟨ag,junk,q1,q2.frm (Frm.of_below (S:=fun _=>False) ke) fun _ _=>id,fun g' e=>⟨q3 g' e,.inl (q2.arr g' e).lt⟩⟩,hR.frm.trans (Frm.of_below ke),nR _,fun _ _ _=>rfl⟩
    have U0:=aA FK;have Rk:wr.heap.size≤w6.heap.size:=ke.size;obtain⟨W5,Ar⟩:=eZ (wr.heap.size);rw[Ar]at S3 Rk;have Sj:Hid (yI.Own W5 w6 (.slice ua bl.length uc) bl):=by show yI.Own _ _ _ _;rw[←Ar];exact FK
    clear FK hR Ar ix U0;go_wp2;go_loopw [5,9] (fun u i wx=>∃m:Nat,m≤bl.length∧i=.int .i64 m∧InR w2 w6 B W5 (pre++bl.take m) u wx) (fun _ i _=>bl.length -(intOf i).toNat)
    case atStart=>exact⟨0,by omega,rfl,by simpa using S3⟩
    case round=>
     obtain⟨m,hm,rfl,hR⟩:=hrel;by_cases hlt2:m<bl.length
     ·obtain⟨ag,junk,rfl,q1,q2⟩:=id hR.own
      obtain⟨g3,o3,c3,JY,CT,la⟩:=aDK Sj.out.sl (by omega);cases JY;have Gs:W5≤g3:=by
       obtain⟨a3,j3,e3,_,e4⟩:=Sj.out;cases a3 with
       | none=>simp[adr]at e3
       | some g4=>
        simp only[adr,Option.map_some,Value.slice.injEq,sJ,Addr.mk.injEq]at e3;have:=e4 g4 rfl;omega
      obtain⟨y0,y1⟩:=la wr m (hR.keep g3 Gs CT) hlt2;have Wn:(m:Int) <(bl.length:Int):=by omega
      have uj:(pre++bl.take m).length<1000000:=by simp;omega
      have HT:Hid (pre++bl.take (m+1)=pre++bl.take m++[((bl.getD m (.empty,.empty)).1,(bl.getD m (.empty,.empty)).2)]):=by
       show _=_
       rw[cC bl m (ByteArray.empty,ByteArray.empty) hlt2,List.append_assoc]
      have Kf:B≤wr.heap.size:=lT (by have:=lh.out;omega) hR.frm.size;have HR:=aA hR;generalize (bl.getD m (.empty,.empty)).1=kx at *;generalize (bl.getD m (.empty,.empty)).2=vx at *;have qm:Hid (∀a' junk' w',yI.Rw w' a' (pre++bl.take m++[(kx,vx)]) junk'→(∀g,a'=some g→ag=some g∨wr.heap.size≤g)→Frm (fun k=>ag=some k) wr w'→InR w2 w6 B W5 (pre++bl.take (m+1)) (.slice (adr a') (pre++bl.take m++[(kx,vx)]).length ((pre++bl.take m++[(kx,vx)]).length+junk'.length)) w'):=fun a' junk' w' k1 k2 k3=>by
       rw[HT.out];exact HR.out.step Hv.out lh.out.2 q1 q2 k1 k2 k3 Kf
      generalize pre++bl.take m=pm at *;have Ep:Hid (m+1≤bl.length):=hlt2;clear la hR;go_wp2_with (first | (at_builtin;refine yI.wpApp1F rfl _ _ rfl q1 rfl (kx,vx) rfl rfl uj ?_;intro a' junk' w7 k1 k2 k3;have S2:=qm.out a' junk' w7 k1 k2 k3;clear qm) | go_in);go_roundw
      case rel=>
       have e9:(pm++[(kx,vx)]).length=pm.length+1:=by simp
       rw[e9]at S2;exact⟨m+1,Ep.out,by go_num,S2⟩
      case measure=>have Jk:=Ep.out;simp[intOf];omega
     ·obtain rfl:m=bl.length:=by omega
      rw[List.take_of_length_le (nR _),←HS.out]at hR;have HI:Hid (ItR w2 B ((es.take (j+1)).flatMap fun e=>aS f.nodes h (ch e)) u5 wr):=by
       obtain⟨ag,junk,q0,q1,q2⟩:=hR.own;exact⟨⟨ag,junk,q0,q1,fun g' e=>(q2 g' e).1⟩,hR.frm⟩
      clear hR;go_wp2;go_roundw
      case rel=>exact⟨j+1,qk.out,by go_num,HI.out⟩
      case measure=>have Jk:=qk.out;simp[intOf];omega
   ·obtain rfl:j=es.length:=by omega
    rw[List.take_of_length_le (nR _)]at hR;have HR:Hid (yI.Own w.heap.size wr u5 (es.flatMap fun e=>aS f.nodes h (ch e))∧Bl w wr):=⟨by rw[hB];exact hR.own,dz.trans (hR.frm.below (by rw[hB];have:=lh.out;omega) fun k e=>by rw[e];omega)⟩;clear hR qo;go_wp2;go_ret;rw[←hB];exact⟨_,rfl,HR.out.1,HR.out.2⟩
def tX(o:OB):Value:=match o with
 | none=>.tuple #[.string .empty,.bool false]
 | some v=>.tuple #[.string v,.bool true]
theorem aHO{j:Nat}(hj:j<l.length)(h:∀x,x<j→(l.getD x (.empty,.empty)).1≠key)(he:(l.getD j (.empty,.empty)).1=key):eY l key=some (l.getD j (.empty,.empty)).2:=by
 induction l generalizing j with
 | nil=>simp at hj
 | cons a l ih=>
  unfold eY;rw[List.find?_cons];cases j with
  | zero=>
   have:(a.1.toList == key.toList)=true:=by rw[show a.1=key from he];exact beq_self_eq_true _
   rw[this];rfl
  | succ j=>
   have:(a.1.toList == key.toList)=false:=by
    rw[beq_eq_false_iff_ne];intro e;exact h 0 (by omega) (gQ e)
   rw[this];exact ih (j:=j) (by simpa using hj) (fun x hx=>h (x+1) (by omega)) he
theorem aHP(h:∀x,x<l.length→(l.getD x (.empty,.empty)).1≠key):eY l key=none:=by
 unfold eY;have:l.find? (fun p=>p.1.toList == key.toList)=none:=by
  rw[List.find?_eq_none];intro p hp;obtain⟨j,hj,rfl⟩:=List.getElem_of_mem hp;have:=h j hj;rw[gD,gE hj]at this;intro e;exact this (gQ (by simpa using e))
 rw[this];rfl
theorem oV(hI:IC f){H:Nat}(ht:t<f.roots.length)(hk:Ok f.nodes H (aB f t) none none)(key:ByteArray)(w:World)(S:Nat)(A:SA)(hS:Sp w S A f):
  Calls Tryz.prog 68 #[.pointer (some ⟨S,0,none⟩),.int .i64 t,.string key] w fun r w'=>r=.returned (tX (Fo.find f.nodes H (aB f t) key))∧Bl w w':=by
 rw[rH hk];have Bb:=oT hI hk;obtain⟨_,s1,s2,_⟩:=hS.cells;obtain⟨_,r1⟩:=hS.v.root ht;have h0:0≤(f.roots.getD t (0,0)).2:=(hI.rb _ (aO ht)).1;have fl:(f.roots.getD t (0,0)).2=(aB f t:Int):=by unfold aB;omega
 rw[fl]at r1;have Rv:(t:Int) <(f.roots.length:Int):=by omega
 have Nr:=aA ((kY hI A.ga A.ns A.nj H (aB f t) none none w.drew hk hS.drew.v.nds (by omega)).mono (R':=fun r w1=>∃u,r=.returned u∧yI.Sl w1 u (aS f.nodes H (aB f t))∧Bl w w1) fun r w1 hw=>by
  obtain⟨u,h1,h2,h3⟩:=hw;exact⟨u,h1,h2.sl,(bQ _ w).drew.trans h3⟩)
 generalize aS f.nodes H (aB f t)=l at *;have HS:=aA hS;have Ld:Hid (∀w1,Bl w w1→w1.cell? ⟨S,1,none⟩=some (.slice (some ⟨A.ga,0,none⟩) A.ns.length (A.ns.length+A.nj.length))∧w1.cell? ⟨S,2,none⟩=some (.slice (some ⟨A.gr,0,none⟩) f.roots.length (f.roots.length+A.rj.length))∧w1.cell? ⟨A.gr,t*2+1,none⟩=some (.int .i64 (aB f t))):=fun w1 hb=>⟨(hS.below hb).cells.2.1,(hS.below hb).cells.2.2.1,by rw[((hS.below hb).v.root ht).2,fl]⟩;clear fl h0;go_enter Tryz.func68,Tryz.ntmps68;go_wp2;go_region_held3 (fun W=>W.cell? ⟨S,1,none⟩=some (.slice (some ⟨A.ga,0,none⟩) A.ns.length (A.ns.length+A.nj.length))∧W.cell? ⟨S,2,none⟩=some (.slice (some ⟨A.gr,0,none⟩) f.roots.length (f.roots.length+A.rj.length))∧W.cell? ⟨A.gr,t*2+1,none⟩=some (.int .i64 (aB f t))) (first | assumption | go_keep) ((go_at_call 44;refine Nr.out.mono ?_;rintro r w1 ⟨u,rfl,eS,ao⟩;have hX:=Ld.out w1 ao;obtain⟨ua,uc,rfl⟩:=eS.len));have cg:0<l.length→_:=fun h=>aDK eS h;clear hX;go_wp2;go_loopw [9] (fun i wr=>∃j:Nat,j≤l.length∧i=.int .i64 j∧Is2 (.bool false) (.bool false) wr w1∧Hid (∀x,x<j→(l.getD x (.empty,.empty)).1≠key)) (fun i _=>l.length -(intOf i).toNat)
 case atStart=>exact⟨0,by omega,rfl,⟨rfl,rfl⟩,fun x hx=>by omega⟩
 case round=>
  obtain⟨j,hj,rfl,⟨_,wt⟩,ay⟩:=hrel;subst wt;by_cases ai:j<l.length
  ·obtain⟨g,o,c,he,hg,aa⟩:=cg (by omega)
   cases he
   obtain⟨x0,x1⟩:=aa wr j rfl ai;have dm:(j:Int) <(l.length:Int):=by omega
   by_cases he:(l.getD j (.empty,.empty)).1=key
   ·have HL:Hid (tX (eY l key)=.tuple #[.string (l.getD j (.empty,.empty)).2,.bool true]):=by show tX _=_;rw[aHO ai ay.out he];rfl
    have hq:((l.getD j (.empty,.empty)).1.toList == key.toList)=true:=by rw[he];exact beq_self_eq_true _
    clear cg aa ay he;generalize (l.getD j (.empty,.empty)).1=x at *;generalize (l.getD j (.empty,.empty)).2=y at *;go_wp2;refine bodyPost_ret (v:=.tuple #[.string y,.bool true]) (by simp[results,Tryz.f68,go_sem]) rfl ?_;exact⟨by rw[HL.out],ao⟩
   ·have hq:((l.getD j (.empty,.empty)).1.toList == key.toList)=false:=by rw[beq_eq_false_iff_ne];exact fun e=>he (gQ e)
    have HA:Hid (∀x,x<j+1→(l.getD x (.empty,.empty)).1≠key):=fun x hx=>by
     by_cases e:x=j
     ·rw[e];exact he
     ·exact ay.out x (by omega)
    clear cg aa ay he;generalize (l.getD j (.empty,.empty)).1=x at *;go_wp2;go_roundw
    case rel=>exact⟨j+1,by omega,by go_num,⟨rfl,rfl⟩,HA.out⟩
    case measure=>simp[intOf];omega
  ·obtain rfl:j=l.length:=by omega
   have HL:Hid (tX (eY l key)=.tuple #[.string .empty,.bool false]):=by show tX _=_;rw[aHP ay.out];rfl
   clear cg ay;go_wp2;refine bodyPost_ret (v:=.tuple #[.string .empty,.bool false]) (by simp[results,Tryz.f68,go_sem];try rfl) rfl ?_;exact⟨by rw[HL.out],ao⟩
theorem sQ(c:List Int):∀k,iL c k≤k
 | 0=>nR _
 | k+1=>by
  have:=sQ c k
  unfold iL;split<;>omega
def woT(l:List (Int×Int))(i:Nat)(j:Nat):List (Int×Int):=if j≤i then l.take j else delE (l.take j) i
theorem aIP(l:List (Int×Int))(i j:Nat)(ai:j<l.length):woT l i (j+1)=if j=i then woT l i j else woT l i j++[l.getD j (0,0)]:=by
 have ht:=cC l j (0,0) ai;unfold woT;by_cases q:j=i
 ·subst q
  rw[if_pos rfl,if_neg (by omega),if_pos (nR _),ht];unfold delE;have FB:(l.take j).length=j:=by simp;omega
  rw[List.take_left' FB,List.drop_of_length_le (by simp;omega)];simp
 ·rw[if_neg q]
  by_cases q2:j<i
  ·rw[if_pos (by omega),if_pos (by omega),ht]
  ·rw[if_neg (by omega),if_neg (by omega),ht]
   unfold delE;rw[List.take_append_of_le_length (by simp;omega),List.drop_append_of_le_length (by simp;omega)];simp
theorem Sp.newRoots(h:Sp w S A f)(hg:IsC w gr (yT.row (g.roots++rj)) 77)(LG:g.roots.length+rj.length≤maxLen)(hn:∀b d,g.nodes b=some d→f.nodes b=some d)(hl:g.cur.length=f.cur.length)(h1:g.next=f.next)(h2:g.gen=f.gen)(h3:g.com=f.com):
  Sp (w.setCell ⟨S,2,none⟩ (.slice (some ⟨gr,0,none⟩) g.roots.length (g.roots.length+rj.length))) S {A with gr:=gr,rj:=rj} g:=by
 have hF:Frm (fun k=>k=S) w (w.setCell ⟨S,2,none⟩ (.slice (some ⟨gr,0,none⟩) g.roots.length (g.roots.length+rj.length))):=Frm.set (S:=fun k=>k=S) w (p:=⟨S,2,none⟩) rfl _;refine⟨?_,(h.v.nds.frm hF (fun g cs k=>k.type_ne h.box (by decide)) (h.v.nds.arr.type_ne h.box (by decide))).sub hn,by show A.ns.length=_;rw[hl];exact h.v.ln,hg.frm hF (hg.type_ne h.box (by decide)),LG,by rw[h3];exact h.v.com.frm hF fun g cs k=>k.type_ne h.box (by decide)⟩;have:=h.box.set 2 (.slice (some ⟨gr,0,none⟩) g.roots.length (g.roots.length+rj.length));have e:(aL A f).setIfInBounds 2 (.slice (some ⟨gr,0,none⟩) g.roots.length (g.roots.length+rj.length))=aL {A with gr:=gr,rj:=rj} g:=by
  unfold aL;rw[hl,h1,h2];rfl
 rw[e]at this;exact this
structure ZcP(w:World)(S:Nat)(A:SA)(g:fZ)(w':World):Prop where
 ex:∃A',Sp w' S A' g∧A'.tv=A.tv
 frm:Frm (fun k=>k=S∨k=A.ga∨k=A.gr) w w'
theorem aBF(hf:CtS f)(hg:CtS g)(ht:t<f.roots.length)(h1:1<f.roots.length)(hr:g.roots=delE f.roots t)(hn:∀b d,g.nodes b=some d→f.nodes b=some d)(hl:g.cur.length=f.cur.length)(hx:g.next=f.next)(Ml:g.gen=f.gen)(QX:g.com=f.com)(w:World)(S:Nat)(A:SA)(hS:Sp w S A f):
  Calls Tryz.prog 67 #[.pointer (some ⟨S,0,none⟩),.int .i64 t] w fun r w'=>r=.returned (.tuple #[.int .i64 ((fG f.nodes f.cur.length:Int) -(fG g.nodes f.cur.length:Int)),.int .i64 0])∧ZcP w S A g w':=by
 have h8:=hf.ic.n8;have h5:=hf.ic.n512;have XA:=hf.r16;obtain⟨_,_,s2,_⟩:=hS.cells;have av:((f.roots.length:Int) == 1)=false:=by rw[beq_eq_false_iff_ne];omega
 have HC:=aA ((iD hf.ic hf.k hf.ent w S A hS (by omega)).mono (R':=fun r w1=>∃u,r=.returned u∧y64.Sl w1 u f.cur∧Bl w w1) fun r w1 hw=>by
  obtain⟨u,q1,q2,q3⟩:=hw;exact⟨u,q1,q2.sl,q3⟩)
 have O1:=aA (sR hf.ic);have Uj:=aA (sR hg.ic);have HS:=aA hS;have qu:g.roots.length=f.roots.length-1:=by rw[hr];exact bI _ _ ht
 have N1:=aA (aI hr qu);have KY:=aA hl;clear hr qu hl;go_enter Tryz.func67,Tryz.ntmps67;go_wp2_with fail;refine HC.out.mono ?_;rintro r w1 ⟨u,rfl,hu,ao⟩;go_wp2_with fail;refine(pK u f.cur w1 hu h5 (by omega)).mono ?_;rintro r w1' ⟨rfl,Na⟩;rw[Na];have br:=HS.out.below ao;obtain⟨_,_,t2,_⟩:=br.cells;have US:=aA ao;have ox:=aA br;obtain⟨pc,wn⟩:=eZ (iL f.cur f.cur.length);rw[wn];have Sc:=aA wn;clear wn Na hu;go_wp2;go_loopw [7,8] (fun u i wr=>∃j:Nat,j≤f.roots.length∧i=.int .i64 j∧yT.Own w1.heap.size wr u (woT f.roots t j)∧Bl w1 wr) (fun _ i _=>f.roots.length -(intOf i).toNat)
 case atStart=>exact⟨0,by omega,rfl,Ely.Own.lit _ _ (nR _) _ (by omega),(bQ _ _).alloc (nR _) _⟩
 case round=>
  obtain⟨j,hj,rfl,ap,hb⟩:=hrel;have bd:=hb.size;have za:=ox.out.below hb;obtain⟨_,_,t2',_⟩:=za.cells;by_cases ai:j<f.roots.length
  ·obtain⟨x0,x1⟩:=za.v.root ai
   have dm:(j:Int) <(f.roots.length:Int):=by omega
   have ah:(woT f.roots t j).length<1000000:=by
    unfold woT;split
    ·simp;omega
    ·rw[bI _ _ (by simp;omega)];simp;omega
   have HW:=aA (aIP f.roots t j ai);have HE:Hid (f.roots.getD j (0,0)=((f.roots.getD j (0,0)).1,(f.roots.getD j (0,0)).2)):=rfl;rw[HE.out]at HW;generalize (f.roots.getD j (0,0)).1=xa at *;generalize (f.roots.getD j (0,0)).2=xb at *;generalize woT f.roots t j=pre at *;clear za HE;by_cases q:j=t
   ·have q':((j:Int) ==(t:Int))=true:=by simp[q]
    rw[if_pos q]at HW;clear q;go_wp2;go_roundw
    case rel=>exact⟨j+1,by omega,by go_num,by rw[HW.out];exact ap,hb⟩
    case measure=>simp[intOf];omega
   ·have q':((j:Int) ==(t:Int))=false:=by rw[beq_eq_false_iff_ne];omega
    rw[if_neg q]at HW;clear q;go_wp2_with (first | (at_builtin;refine yT.wpApp1 rfl _ _ rfl ap rfl (xa,xb) rfl rfl ah bd ?_;intro u' w5 k1 k2 k3) | go_in);rw[←HW.out]at k1;go_roundw
    case rel=>exact⟨j+1,by omega,by go_num,k1,hb.trans k2⟩
    case measure=>simp[intOf];omega
  ·obtain rfl:j=f.roots.length:=by omega
   have e1:woT f.roots t f.roots.length=g.roots:=by unfold woT;rw[if_neg (by omega),N1.out.1];simp
   rw[e1]at ap;obtain⟨ag,rj,rfl,d5,ll⟩:=ap;have E9:0<g.roots.length:=by rw[N1.out.2];omega
   obtain⟨gr,rfl⟩:∃gr,ag=some gr:=by
    cases ag with
    | none=>have:=(d5.nil rfl).1;rw[this]at E9;simp at E9
    | some x=>exact⟨x,rfl⟩
   simp only[adr,Option.map_some];have ax:=za.newRoots (g:=g) (d5.arr gr rfl) d5.small hn KY.out hx Ml QX;obtain⟨w3,dw⟩:=eZ (wr.setCell ⟨S,2,none⟩ (.slice (some ⟨gr,0,none⟩) g.roots.length (g.roots.length+rj.length)));rw[dw]at ax;have z2:=za.box.frozen 2;have bu:Frm (fun k=>k=S) wr w3:=by rw[←dw];exact Frm.set (S:=fun k=>k=S) wr (p:=⟨S,2,none⟩) rfl _
   have CA:=aA ((iD hg.ic hg.k hg.ent w3 S _ ax (by have:=hg.r16;omega)).mono (R':=fun r w1=>∃u,r=.returned u∧y64.Sl w1 u g.cur∧Bl w3 w1) fun r w1 hw=>by
    obtain⟨u,q1,q2,q3⟩:=hw;exact⟨u,q1,q2.sl,q3⟩)
   have pw:=aA ax;have GW:Hid (Frm (fun k=>k=S∨k=A.ga∨k=A.gr) w w3):=((Frm.of_below US.out).trans ((Frm.of_below hb).wide (S:=fun _=>False) fun _ _ e=>e.elim)).trans (bu.wide fun _ _ e=>.inl e);clear ax d5 ll za bu;go_wp2_with fail;refine CA.out.mono ?_;rintro r w4 ⟨u,rfl,hu,kw⟩;go_wp2_with fail;refine(pK u g.cur w4 hu (by rw[KY.out];exact h5) (by rw[KY.out];omega)).mono ?_;rintro r w4' ⟨rfl,Nb⟩;rw[Nb];obtain⟨pg,LA⟩:=eZ (iL g.cur g.cur.length);rw[LA];have Vt:pc≤512∧pg≤512:=by
    have e1:=sQ f.cur f.cur.length;have e2:=sQ g.cur g.cur.length;rw[Sc.out]at e1;rw[LA,KY.out]at e2;omega
   have Xe:IntKind.i64.wrap ((pc:Int) -(pg:Int))=(pc:Int) -(pg:Int):=IntWalk.i64_in _ ⟨by omega,by omega⟩;have HZ:Hid (ZcP w S A g w4):=⟨⟨_,pw.out.below kw,rfl⟩,GW.out.trans (Frm.of_below kw)⟩;have HE:Hid ((fG f.nodes f.cur.length:Int) -(fG g.nodes f.cur.length:Int)=(pc:Int) -(pg:Int)):=by
    show _=_
    rw[←O1.out,Sc.out,←KY.out,←Uj.out,LA]
   clear hu Nb LA;go_wp2;refine bodyPost_ret (v:=.tuple #[.int .i64 ((pc:Int) -(pg:Int)),.int .i64 0]) (by simp[results,Tryz.f67,go_sem]) rfl ?_;exact⟨by rw[HE.out],HZ.out⟩
theorem Ely.appendK(Y:Ely α)(a:Option Nat)(es junk vs:List α)(v:Value)(W:World)(ha:Y.Rw W a es junk)(hv:Y.Sl W v vs)(Ai:es.length+vs.length≤1000000):
  ∃u W' a' junk',(∀ty,(Builtin.append_ #[Y.s,Y.s] ty #[.slice (adr a) es.length (es.length+junk.length),v]).run Tryz.prog W=.ok u W')∧u=.slice (adr a') (es.length+vs.length) (es.length+vs.length+junk'.length)∧
   Y.Rw W' a' (es++vs) junk'∧(∀g,a'=some g→a=some g∨W.heap.size≤g)∧Frm (fun k=>a=some k) W W'∧(a'=a∨Frm (fun _=>False) W W'):=by
 obtain⟨i0,hi,h3,Aj,hz⟩:=Y.info;have hm:=ha.small;have d8:Src Tryz.prog i0.size Y.s v vs.length (vs.flatMap Y.cell) W:=by
  rcases hv with⟨rfl,rfl⟩ | ⟨gv,o,cap,xs,rfl,hx,hl,he⟩
  ·exact Src.ofNil W Y.us 0
  ·exact Src.ofSlice W Y.us ⟨gv,o*Y.n,none⟩ vs.length cap _ (by rw[Y.len,h3]) (Ely.Sl.cells hx hl he) (Y.oneL vs)
 by_cases jq:vs.length≤junk.length
 ·cases a with
  | none=>
   obtain⟨rfl,rfl⟩:=ha.nil rfl;have GN:vs=[]:=List.length_eq_zero_iff.1 (by simpa using jq);subst GN;refine⟨_,W,none,[],fun ty=>?_,rfl,⟨fun g q=>(by cases q),fun _=>⟨rfl,rfl⟩,by simp⟩,fun g q=>(by cases q),Frm.refl _ _,.inl rfl⟩;have:=run_append_nothing (P:=Tryz.prog) W Y.s Y.s ty Y.t i0 Y.us hi none 0 0 (nR _) v d8;exact this
  | some g=>
   have hg:=ha.arr g rfl;refine⟨_,_,some g,junk.drop vs.length,fun ty=>run_append_room_src (P:=Tryz.prog) W Y.s Y.s ty Y.t i0 Y.us hi g 0 es.length (es.length+junk.length) v _ _ d8 (by omega)
    (fun k hk=>by
     rw[Y.len]at hk;have:(es.length+vs.length)*Y.n≤(es.length+junk.length)*Y.n:=Nat.mul_le_mul_right _ (by omega);rw[Nat.add_mul,Nat.add_mul]at this;rw[hg.cell,h3,Array.getElem?_eq_getElem (by rw[Y.size,lP,Nat.add_mul];omega)];rfl) (fun k hk=>hg.frozen _),?_,⟨fun g' q=>?_,fun q=>(by cases q),?_⟩,fun g' q=>.inl q,?_,.inl rfl⟩
   ·simp[adr];omega
   ·cases q
    have:=IsC.sets (vs.flatMap Y.cell) (cs:=(es++junk).flatMap Y.cell) (es.length*Y.n) hg (by
     rw[Y.len,Y.len,lP,←Nat.add_mul];exact Nat.mul_le_mul_right _ (by omega))
    rw[Y.spl]at this;have e1:Go.Proofs.YtaahkgkdpnnhhaaGreat.spl (es++junk) es.length vs=es++vs++junk.drop vs.length:=by
     unfold Go.Proofs.YtaahkgkdpnnhhaaGreat.spl;rw[List.take_left,←List.drop_drop,List.drop_left]
    rw[e1]at this;rw[h3,Nat.zero_add];exact this
   ·simp;omega
   ·exact Frm.sets (S:=fun k=>some g=some k) _ rfl _ _
 ·have sn:(Builtin.firstCells i0.size es.length (.slice (adr a) es.length (es.length+junk.length))).run Tryz.prog W.drew=.ok (es.flatMap Y.cell).toArray W.drew:=by
   cases a with
   | none=>
    obtain⟨rfl,rfl⟩:=ha.nil rfl;exact run_firstCells_none (P:=Tryz.prog) W.drew i0.size 0 0 0
   | some g=>
    have hg:=ha.arr g rfl;exact run_firstCells_some (P:=Tryz.prog) W.drew i0.size es.length ⟨g,0,none⟩ es.length _ (es.flatMap Y.cell) (by rw[Y.len,h3]) (by
     have:=Ely.Sl.cells (Y:=Y) (w:=W.drew) (g:=g) (o:=0) (xs:=es++junk) (es:=es) hg.drew (by rw[lP];omega) (by simp)
     rw[Nat.zero_mul]at this;exact this)
  have hr:=fun ty=>run_append_grow_src (P:=Tryz.prog) W Y.s Y.s ty Y.t i0 _ Y.us hi hz (adr a) es.length (es.length+junk.length) (es.flatMap Y.cell) sn v vs.length (vs.flatMap Y.cell) d8 (by omega) (by omega) (by rw[Aj];exact Y.nsc (by omega) (by omega));have xz:=grownCap_ge W (es.length+vs.length) (es.length+junk.length) Y.t;have pr:=grownCap_le_maxLen W (es.length+vs.length) (es.length+junk.length) Y.t (by simp[maxLen];omega);generalize grownCap W (es.length+vs.length) (es.length+junk.length) Y.t=gc at *;refine⟨_,_,some W.heap.size,List.replicate (gc -(es.length+vs.length)) Y.z,hr,?_,⟨fun g q=>?_,fun q=>(by cases q),?_⟩,fun g q=>(by cases q;exact .inr (nR _)),?_,.inr ((Frm.drew _ W).trans (Frm.alloc _ _ _))⟩
  ·simp[adr];omega
  ·cases q
   have:=IsC.new W.drew ((es.flatMap Y.cell++vs.flatMap Y.cell).toArray++Builtin.zeroCells Y.zv.cells (gc -(es.length+vs.length))) Y.t
   have e:Y.row (es++vs++List.replicate (gc -(es.length+vs.length)) Y.z)=(es.flatMap Y.cell++vs.flatMap Y.cell).toArray++Builtin.zeroCells Y.zv.cells (gc -(es.length+vs.length)):=by
    rw[Y.zeroL];simp[Ely.row]
   rw[e];exact this
  ·simp;omega
  ·exact(Frm.drew _ W).trans (Frm.alloc _ _ _)
theorem lK(s x:Operand)(t tn:TypeId)
  (ho:o.op=.call {callee:=.builtin .append,args:=#[s,x],argTypes:=#[t,tn]}) (tt:Nat) (hd:o.dst=some tt) (vs vx:Value) (hs:a.eval s=vs) (hx:a.eval x=vx)
  (v':Value) (w':World) (hr:(Builtin.append_ #[t,tn] o.type #[vs,vx]).run P w=.ok v' w') (h:K (a.put (some tt) v') w'):Oper.wp P o a w K Q:=
 pV s x t tn ho vs vx hs hx v' w' hr (by rw[hd];exact h)
theorem Sp.layRoots(bj:IsC w S (aL A f) 57)(F8:iX w A.ga A.ns A.nj f.nodes)(Ky:A.ns.length=f.cur.length)(Cu:y64.Sl w A.cv f.com)(hg:IsC w gr (yT.row (g.roots++rj)) 77)(LG:g.roots.length+rj.length≤maxLen)(hn:∀b d,g.nodes b=some d→f.nodes b=some d)(hl:g.cur.length=f.cur.length)(h1:g.next=f.next)(h2:g.gen=f.gen)(h3:g.com=f.com):
  Sp (w.setCell ⟨S,2,none⟩ (.slice (some ⟨gr,0,none⟩) g.roots.length (g.roots.length+rj.length))) S {A with gr:=gr,rj:=rj} g:=by
 have hF:Frm (fun k=>k=S) w (w.setCell ⟨S,2,none⟩ (.slice (some ⟨gr,0,none⟩) g.roots.length (g.roots.length+rj.length))):=Frm.set (S:=fun k=>k=S) w (p:=⟨S,2,none⟩) rfl _;refine⟨?_,(F8.frm hF (fun g cs k=>k.type_ne bj (by decide)) (F8.arr.type_ne bj (by decide))).sub hn,by show A.ns.length=_;rw[hl];exact Ky,hg.frm hF (hg.type_ne bj (by decide)),LG,by rw[h3];exact Cu.frm hF fun g cs k=>k.type_ne bj (by decide)⟩;have:=bj.set 2 (.slice (some ⟨gr,0,none⟩) g.roots.length (g.roots.length+rj.length));have e:(aL A f).setIfInBounds 2 (.slice (some ⟨gr,0,none⟩) g.roots.length (g.roots.length+rj.length))=aL {A with gr:=gr,rj:=rj} g:=by
  unfold aL;rw[hl,h1,h2];rfl
 rw[e]at this;exact this
theorem Sp.setNext(h:Sp w S A f)(v:Int):Sp (w.setCell ⟨S,3,none⟩ (.int .i64 v)) S A {f with next:=v}∧Frm (fun k=>k=S) w (w.setCell ⟨S,3,none⟩ (.int .i64 v)):=by
 have hF:Frm (fun k=>k=S) w (w.setCell ⟨S,3,none⟩ (.int .i64 v)):=Frm.set (S:=fun k=>k=S) w (p:=⟨S,3,none⟩) rfl _;refine⟨⟨?_,h.v.nds.frm hF (fun g cs k=>k.type_ne h.box (by decide)) (h.v.nds.arr.type_ne h.box (by decide)),h.v.ln,h.v.rts.frm hF (h.v.rts.type_ne h.box (by decide)),h.v.rs,h.v.com.frm hF fun g cs k=>k.type_ne h.box (by decide)⟩,hF⟩;exact h.box.set 3 (.int .i64 v)
theorem yZ(hI:IC f)(ht:t<f.roots.length)(jr:f.roots.length<16)(hn:0≤f.next∧f.next<65535)(w:World)(S:Nat)(A:SA)(hS:Sp w S A f):
  Calls Tryz.prog 66 #[.pointer (some ⟨S,0,none⟩),.int .i64 t] w fun r w'=>r=.returned (.tuple #[.int .i64 f.next,.int .i64 0])∧ZcP w S A (cU f t) w':=by
 obtain⟨_,_,s2,s3,_⟩:=hS.cells;obtain⟨_,r1⟩:=hS.v.root ht;have h0:0≤(f.roots.getD t (0,0)).2:=(hI.rb _ (aO ht)).1;have fl:(f.roots.getD t (0,0)).2=(aB f t:Int):=by unfold aB;omega
 rw[fl]at r1;have Rv:(t:Int) <(f.roots.length:Int):=by omega
 have Ll:¬((16:Int)≤(f.roots.length:Int)):=by omega
 have RR:¬((65535:Int)≤f.next):=by omega
 have R3:IntKind.i64.wrap (f.next+1)=f.next+1:=IntWalk.i64_in _ ⟨by omega,by omega⟩;have N0:=aA fl;have Gj:=aGC;obtain⟨rb,KH⟩:=eZ (aB f t);obtain⟨nx,iy⟩:=eZ (f.next);rw[KH]at r1 N0;have xd:=aA (aI iy KH);rw[iy]at s3 RR R3;rw[iy];have HS:=aA hS;clear fl h0 KH iy;go_enter Tryz.func66,Tryz.ntmps66;go_wp2;have am:w.drew.cell? ⟨S,2,none⟩=some (.slice (some ⟨A.gr,0,none⟩) f.roots.length (f.roots.length+A.rj.length))∧w.drew.cell? ⟨A.gr,t*2+1,none⟩=some (.int .i64 (rb:Int)):=⟨s2,r1⟩;refine bA (fun W=>W.cell? ⟨S,2,none⟩=some (.slice (some ⟨A.gr,0,none⟩) f.roots.length (f.roots.length+A.rj.length))∧W.cell? ⟨A.gr,t*2+1,none⟩=some (.int .i64 (rb:Int))) 19 (by kernel_rfl) ?_;refine tJ 0 24 (.pointer (some ⟨S,0,none⟩)) rfl am ?_;simp only[Act.put,sB,sZ,sS];refine tJ 1 25 (.pointer (some ⟨S,0,none⟩)) rfl am ?_;simp only[Act.put,sB,sZ,sS];refine tJ 2 26 (.pointer (some ⟨S,0,none⟩)) rfl am ?_;simp only[Act.put,sB,sZ,sS];refine tJ 3 27 (.pointer (some ⟨S,2,none⟩)) rfl am ?_;simp only[Act.put,sB,sZ,sS];refine tJ 4 28 (.slice (some ⟨A.gr,0,none⟩) f.roots.length (f.roots.length+A.rj.length)) rfl am ?_;simp only[Act.put,sB,sZ,sS];refine tJ 5 29 (.int .i64 nx) rfl am ?_;simp only[Act.put,sB,sZ,sS];refine tJ 6 30 (.pointer (some ⟨S,0,none⟩)) rfl am ?_;simp only[Act.put,sB,sZ,sS];refine tJ 7 31 (.pointer (some ⟨S,0,none⟩)) rfl am ?_;simp only[Act.put,sB,sZ,sS];refine tJ 8 32 (.pointer (some ⟨S,2,none⟩)) rfl am ?_;simp only[Act.put,sB,sZ,sS];refine tJ 9 33 (.slice (some ⟨A.gr,0,none⟩) f.roots.length (f.roots.length+A.rj.length)) rfl am ?_;simp only[Act.put,sB,sZ,sS];refine tJ 10 34 (.int .i64 t) rfl am ?_;simp only[Act.put,sB,sZ,sS];refine tJ 11 35 (.pointer (some ⟨A.gr,t*2,none⟩)) rfl am ?_;simp only[Act.put,sB,sZ,sS];refine tJ 12 36 (.pointer (some ⟨A.gr,t*2+1,none⟩)) rfl am ?_;simp only[Act.put,sB,sZ,sS];refine tJ 13 37 (.int .i64 (rb:Int)) rfl am ?_;simp only[Act.put,sB,sZ,sS];refine tJ 14 38 (.agg #[.int .i64 nx,.int .i64 (rb:Int)]) rfl am ?_;simp only[Act.put,sB,sZ,sS];refine oE 15 rfl fun K2 ae=>?_;go_simp;obtain⟨G,HG⟩:=exH (w.heap.size);obtain⟨W1,DZ⟩:=exH ((w.alloc (.cells #[.int .i64 nx,.int .i64 (rb:Int)] 77)).drew);rw[←DZ.out,←HG.out];have eX:Bl w W1:=by rw[DZ.out];exact((bQ _ w).alloc (nR _) _).drew
 have jy:yT.Sl W1 (.slice (some ⟨G,0,none⟩) 1 1) [(nx,(rb:Int))]:=by
  rw[DZ.out,HG.out];exact(Ely.Sl.new (Y:=yT) w (nx,(rb:Int)) rfl).below (bQ _ _).drew
 have br:=HS.out.below eX;have rh:W1.cell? ⟨S,2,none⟩=some (.slice (some ⟨A.gr,0,none⟩) f.roots.length (f.roots.length+A.rj.length))∧W1.cell? ⟨A.gr,t*2+1,none⟩=some (.int .i64 (rb:Int)):=⟨br.cells.2.2.1,by rw[(br.v.root ht).2,N0.out]⟩;have d5:yT.Rw W1 (some A.gr) f.roots A.rj:=⟨fun g e=>(by cases e;exact br.v.rts),fun e=>(by cases e),br.v.rs⟩;obtain⟨u,W2,a2,rj2,q8,hu,ro,ly,du,RW⟩:=yT.appendK (some A.gr) f.roots A.rj [(nx,(rb:Int))] _ W1 d5 jy (by simp;omega);obtain⟨gr2,rfl⟩:∃g,a2=some g:=by
  cases a2 with
  | none=>have:=(ro.nil rfl).1;simp at this
  | some g=>exact⟨g,rfl⟩
 have P4:S≠A.gr:=br.box.type_ne br.v.rts (by decide);have Fb:Frm (fun k=>k=A.gr) W1 W2:=du.wide fun k _ e=>by simp only[sJ]at e;exact e.symm
 have fv:IsC W2 S (aL A f) 57:=br.box.frm Fb P4;have c2:W2.cell? ⟨S,2,none⟩=some (.slice (some ⟨A.gr,0,none⟩) f.roots.length (f.roots.length+A.rj.length)):=fv.c rfl;have z2:=fv.frozen 2;refine ae _ _ (fun _=>rh) ?_;clear ae K2 am;refine oE 16 rfl fun K2 ae=>?_;refine lK _ _ _ _ rfl 40 rfl _ _ rfl rfl u W2 (q8 _) ?_;simp only[Act.put,sB,sZ,sS];have QR:W2.cell? ⟨A.gr,t*2+1,none⟩=some (.int .i64 (rb:Int)):=by
  rcases RW with e | e
  ·cases e
   rw[(ro.arr A.gr rfl).cell];have:=yT.at (f.roots++[(nx,(rb:Int))]++rj2) (i:=t) (j:=1) (by simp;omega) (by decide);have e2:(f.roots++[(nx,(rb:Int))]++rj2).getD t yT.z=f.roots.getD t (0,0):=by rw[cM,if_pos (by simp;omega),cM,if_pos ht];rfl
   rw[e2]at this;refine(show(yT.row (f.roots++[(nx,(rb:Int))]++rj2))[t*2+1]?=_ from this).trans ?_;show some (Value.int .i64 (f.roots.getD t (0,0)).2)=_
   rw[N0.out]
  ·have:=br.v.rts.frm e id
   rw[this.cell,←br.v.rts.cell];exact rh.2
 have h9:W2.cell? ⟨S,2,none⟩=some (.slice (some ⟨A.gr,0,none⟩) f.roots.length (f.roots.length+A.rj.length))∧W2.cell? ⟨A.gr,t*2+1,none⟩=some (.int .i64 (rb:Int)):=⟨c2,QR⟩;have FK:u=.slice (some ⟨gr2,0,none⟩) (f.roots.length+1) (f.roots.length+1+rj2.length):=hu;subst FK;refine ae _ _ (fun _=>h9) ?_;clear ae K2 rh hu q8;refine oE 17 rfl fun K2 ae=>?_;go_simp;refine ae _ _ (fun _=>h9) ?_;clear ae K2;refine oE 18 rfl fun K2 ae=>?_;go_simp;refine ae _ _ (fun _=>h9) ?_;clear ae K2;refine oE 19 rfl fun K2 ae=>?_;go_simp;refine ae _ _ (fun q=>absurd rfl q) ?_;clear ae K2;refine aW (by kernel_rfl) ?_ _;have GG:=br.v.rts;have Cn:=Sp.layRoots (g:={f with roots:=f.roots++[(nx,(rb:Int))]}) fv (br.v.nds.frm Fb (fun g cs k=>k.type_ne GG (by decide)) (br.v.nds.arr.type_ne GG (by decide))) br.v.ln (br.v.com.frm Fb fun g cs k=>k.type_ne GG (by decide)) (ro.arr gr2 rfl) ro.small (fun _ _ q=>q) rfl rfl rfl rfl;have pr:(f.roots++[(nx,(rb:Int))]).length=f.roots.length+1:=by simp
 simp only[pr]at Cn;obtain⟨w3,dw⟩:=eZ (W2.setCell ⟨S,2,none⟩ (.slice (some ⟨gr2,0,none⟩) (f.roots.length+1) (f.roots.length+1+rj2.length)));rw[dw]at Cn;rw[dw];have bu:Frm (fun k=>k=S∨k=A.ga∨k=A.gr) w w3:=((Frm.of_below eX).trans (Fb.wide fun _ _ e=>.inr (.inr e))).trans (by rw[←dw];exact(Frm.set (S:=fun k=>k=S) W2 (p:=⟨S,2,none⟩) rfl _).wide fun _ _ e=>.inl e);obtain⟨_,_,_,v3,_⟩:=Cn.cells;have v3':w3.cell? ⟨S,3,none⟩=some (.int .i64 nx):=by rw[←xd.out.1];exact v3
 have z3:=Cn.box.frozen 3;obtain⟨Co,jl⟩:=Cn.setNext (nx+1);have au:∀b d,(cU f t).nodes b=some d→f.nodes b=some d:=fun _ _ q=>q;have HZ:Hid (ZcP w S A (cU f t) (w3.setCell ⟨S,3,none⟩ (.int .i64 (nx+1)))):=by
  refine⟨⟨_,Co.sub au (by simp[cU]) ?_ ?_ rfl rfl,rfl⟩,bu.trans (jl.wide fun _ _ e=>.inl e)⟩
  ·show f.roots++[(f.next,(f.roots.getD t (0,0)).2)]=f.roots++[(nx,(rb:Int))]
   rw[xd.out.1,N0.out]
  ·show f.next+1=nx+1
   rw[xd.out.1]
 clear Cn Co ro fv br GG dw v3;go_wp2;refine bodyPost_ret (v:=.tuple #[.int .i64 nx,.int .i64 0]) (by simp[results,Tryz.f66,go_sem]) rfl ?_;exact⟨rfl,HZ.out⟩
def stV(A:SA)(f:fZ):Value:=.agg (aL A f)
structure Cpy(w:World)(n NS RS nx gn cv tv:Value)(B1 B2 B3:Nat)(nv rv:Value)(wr:World):Prop where
 b1:IsC wr B1 #[n,NS,RS,nx,gn,cv,tv] 57
 b2:IsC wr B2 #[.int .i64 0,.slice none 0 0,.slice none 0 0,.int .i64 0,.int .i64 0,.slice none 0 0,.slice none 0 0] 57
 b3:IsC wr B3 #[n,nv,rv,nx,gn,cv,tv] 57
 bel:Bl w wr
 n12:B1≠B3∧B2≠B3∧w.heap.size≤B3
 lo2:w.heap.size≤B2
structure CpR{α:Type}(Y:Ely α)(w:World)(n NS RS nx gn cv tv:Value)(B1 B2 B3:Nat)(fst:Bool)(ov:Value)(l:List α)(j:Nat)(wr:World):Prop where
 ex:∃ag jk,Cpy w n NS RS nx gn cv tv B1 B2 B3 (if fst then .slice (adr ag) j (j+jk.length)else ov) (if fst then ov else .slice (adr ag) j (j+jk.length)) wr∧Y.Rw wr ag (l.take j) jk∧∀g,ag=some g→w.heap.size≤g
theorem Cpy.frm{S:Nat→Prop}(h:Cpy w n NS RS nx gn cv tv B1 B2 B3 nv rv wr)(k:Frm S wr w')(hS:∀g,S g→w.heap.size≤g∧g≠B1∧g≠B2∧g≠B3):Cpy w n NS RS nx gn cv tv B1 B2 B3 nv rv w':=
 ⟨h.b1.frm k fun q=>(hS _ q).2.1 rfl,h.b2.frm k fun q=>(hS _ q).2.2.1 rfl,h.b3.frm k fun q=>(hS _ q).2.2.2 rfl,h.bel.trans (k.below h.bel.size fun g q=>(hS g q).1),h.n12,h.lo2⟩
theorem Cpy.set1(h:Cpy w n NS RS nx gn cv tv B1 B2 B3 nv rv wr)(v:Value):Cpy w n NS RS nx gn cv tv B1 B2 B3 v rv (wr.setCell ⟨B3,1,none⟩ v):=
 ⟨h.b1.set_ne v h.n12.1,h.b2.set_ne v h.n12.2.1,h.b3.set 1 v,h.bel.trans ((bQ _ wr).setCell (p:=⟨B3,1,none⟩) h.n12.2.2 v),h.n12,h.lo2⟩
theorem Cpy.set2'(h:Cpy w n NS RS nx gn cv tv B1 B2 B3 nv rv wr)(v:Value):Cpy w n NS RS nx gn cv tv B1 B2 B3 nv v (wr.setCell ⟨B3,2,none⟩ v):=
 ⟨h.b1.set_ne v h.n12.1,h.b2.set_ne v h.n12.2.1,h.b3.set 2 v,h.bel.trans ((bQ _ wr).setCell (p:=⟨B3,2,none⟩) h.n12.2.2 v),h.n12,h.lo2⟩
theorem mN(w:World)(A:SA)(hS:SpV w A f)(h8:0<f.cur.length)(h5:f.cur.length≤512)(h1:0<f.roots.length)(jr:f.roots.length≤100)(iz:∃a n c,A.tv=.slice a n c):
  Calls Tryz.prog 65 #[stV A f] w fun r w'=>∃A',r=.returned (stV A' f)∧SpV w' A' f∧A'.tv=A.tv∧w.heap.size≤A'.ga∧w.heap.size≤A'.gr∧Bl w w':=by
 have Nw:=aA hS.ln;obtain⟨B1,eX⟩:=eZ (w.heap.size);obtain⟨ta,tn,tc,iz⟩:=iz;obtain⟨ma,mc,pq⟩:=hS.com.len;have O8:Hid (∀(r:Ending) (w':World) (A':SA),r=.returned (stV A' f)→SpV w' A' f→A'.tv=A.tv→w.heap.size≤A'.ga→w.heap.size≤A'.gr→Bl w w'→∃A',r=.returned (stV A' f)∧SpV w' A' f∧A'.tv=A.tv∧w.heap.size≤A'.ga∧w.heap.size≤A'.gr∧Bl w w'):=fun r w' A' a b c d e g=>⟨A',a,b,c,d,e,g⟩;obtain⟨PS,hPS⟩:∃PS:Ending→World→Prop,PS=fun r w'=>∃A',r=.returned (stV A' f)∧SpV w' A' f∧A'.tv=A.tv∧w.heap.size≤A'.ga∧w.heap.size≤A'.gr∧Bl w w':=⟨_,rfl⟩;rw[←hPS];have O7:=aA hPS;clear hPS;have qh:stV A f=.agg #[.int .i64 f.cur.length,.slice (some ⟨A.ga,0,none⟩) A.ns.length (A.ns.length+A.nj.length),.slice (some ⟨A.gr,0,none⟩) f.roots.length (f.roots.length+A.rj.length),.int .i64 f.next,.int .i64 f.gen,.slice ma f.com.length mc,.slice ta tn tc]:=by unfold stV aL;rw[pq,iz]
 rw[qh];have KW:=aA (aI pq (aI iz qh));clear pq iz qh;obtain⟨w1,bh⟩:=eZ (w.alloc (.cells #[.int .i64 f.cur.length,.slice (some ⟨A.ga,0,none⟩) A.ns.length (A.ns.length+A.nj.length),.slice (some ⟨A.gr,0,none⟩) f.roots.length (f.roots.length+A.rj.length),.int .i64 f.next,.int .i64 f.gen,.slice ma f.com.length mc,.slice ta tn tc] 57));obtain⟨B2,db⟩:=eZ (w1.heap.size);obtain⟨w2,ci⟩:=eZ (w1.alloc (.cells #[.int .i64 0,.slice none 0 0,.slice none 0 0,.int .i64 0,.int .i64 0,.slice none 0 0,.slice none 0 0] 57));obtain⟨B3,fk⟩:=eZ (w2.heap.size);obtain⟨w3,dw⟩:=eZ (w2.alloc (.cells #[.int .i64 f.cur.length,.slice none 0 0,.slice (some ⟨A.gr,0,none⟩) f.roots.length (f.roots.length+A.rj.length),.int .i64 f.next,.int .i64 f.gen,.slice ma f.com.length mc,.slice ta tn tc] 57));have e1:=bAl bh;have e2:=bAl ci;have e3:=bAl dw;have c1:=iNw bh eX;have c2:=iNw ci db;have c3:=iNw dw fk;have c12:=c1.of (e2.block _ c1.lt);have q0:w2.cell? ⟨B1,0,none⟩=some (.int .i64 f.cur.length):=c12.c rfl;have q1:w2.cell? ⟨B1,1,none⟩=some (.slice (some ⟨A.ga,0,none⟩) A.ns.length (A.ns.length+A.nj.length)):=c12.c rfl;have q2:w2.cell? ⟨B1,2,none⟩=some (.slice (some ⟨A.gr,0,none⟩) f.roots.length (f.roots.length+A.rj.length)):=c12.c rfl;have q3:w2.cell? ⟨B1,3,none⟩=some (.int .i64 f.next):=c12.c rfl;have q4:w2.cell? ⟨B1,4,none⟩=some (.int .i64 f.gen):=c12.c rfl;have q5:w2.cell? ⟨B1,5,none⟩=some (.slice ma f.com.length mc):=c12.c rfl;have q6:w2.cell? ⟨B1,6,none⟩=some (.slice ta tn tc):=c12.c rfl;have Sx:Cpy w (.int .i64 f.cur.length) (.slice (some ⟨A.ga,0,none⟩) A.ns.length (A.ns.length+A.nj.length)) (.slice (some ⟨A.gr,0,none⟩) f.roots.length (f.roots.length+A.rj.length)) (.int .i64 f.next) (.int .i64 f.gen) (.slice ma f.com.length mc) (.slice ta tn tc) B1 B2 B3 (.slice none 0 0) (.slice (some ⟨A.gr,0,none⟩) f.roots.length (f.roots.length+A.rj.length)) w3:=
  ⟨(c1.of (e2.block _ c1.lt)).of (e3.block _ (lL c1.lt e2.size)),c2.of (e3.block _ c2.lt),c3,e1.trans ((e2.trans (e3.mono e2.size)).mono e1.size),by have:=c1.lt;have:=c2.lt;have:=e1.size;have:=e2.size;omega,by have:=e1.size;omega⟩
 have SR:=aA Sx;have Kb:=aA fun(w':World) (hb:Bl w w')=>hS.below hb;have Ql:=hS.nds.arr.lt;have Qr:=hS.rts.lt;clear e1 e2 e3 c1 c2 c3 c12 Sx hS;go_enter Tryz.func65,Tryz.ntmps65;go_wp2;go_loopw [4] (fun i wr=>∃j:Nat,j≤A.ns.length∧i=.int .i64 j∧CpR yN w (.int .i64 f.cur.length) (.slice (some ⟨A.ga,0,none⟩) A.ns.length (A.ns.length+A.nj.length)) (.slice (some ⟨A.gr,0,none⟩) f.roots.length (f.roots.length+A.rj.length)) (.int .i64 f.next) (.int .i64 f.gen) (.slice ma f.com.length mc) (.slice ta tn tc) B1 B2 B3 true (.slice (some ⟨A.gr,0,none⟩) f.roots.length (f.roots.length+A.rj.length)) A.ns j wr) (fun i _=>A.ns.length -(intOf i).toNat)
 case atStart=>exact⟨0,by omega,rfl,⟨none,[],SR.out,⟨fun g e=>(by cases e),fun _=>⟨by simp,rfl⟩,by simp⟩,fun g e=>(by cases e)⟩⟩
 case round=>
  clear SR bh ci dw;obtain⟨j,hj,rfl,⟨ag,jk,hC,d5,ll⟩⟩:=hrel;simp only[if_true]at hC;have m1:wr.cell? ⟨B1,1,none⟩=some (.slice (some ⟨A.ga,0,none⟩) A.ns.length (A.ns.length+A.nj.length)):=by rw[hC.b1.cell];rfl
  have m2:wr.cell? ⟨B3,1,none⟩=some (.slice (adr ag) j (j+jk.length)):=by rw[hC.b3.cell];rfl
  have za:=Kb.out wr hC.bel;by_cases ai:j<A.ns.length
  ·have Jl:(j:Int) <(A.ns.length:Int):=by omega
   have YG:j<600:=by have:=Nw.out;omega
   have aa:∀(W:World),W.heap[A.ga]?=wr.heap[A.ga]?→W.cell? ⟨A.ga,j*2,none⟩=some (.int .i64 (A.ns.getD j nv0).1)∧W.cell? ⟨A.ga,j*2+1,none⟩=some (.slice (A.ns.getD j nv0).2.1 (A.ns.getD j nv0).2.2.1 (A.ns.getD j nv0).2.2.2):=fun W he=>by
    have hx:∀i,i<2→W.cell? ⟨A.ga,j*2+i,none⟩=(aCJ (A.ns.getD j nv0))[i]?:=fun i hi=>by
     have h0:W.cell? ⟨A.ga,j*2+i,none⟩=wr.cell? ⟨A.ga,j*2+i,none⟩:=by simp[World.cell?,he]
     rw[h0,za.nds.arr.cell];have:=yN.at (A.ns++A.nj) (i:=j) (j:=i) (by simp;omega) hi;have e2:(A.ns++A.nj).getD j yN.z=A.ns.getD j nv0:=by rw[cM,if_pos ai];rfl
     rw[e2]at this;exact this
    exact⟨hx 0 (by omega),hx 1 (by omega)⟩
   have Lj:=aA (cC A.ns j nv0 ai);have AR:(A.ns.take j).length=j:=by simp;omega
   obtain⟨m3,m4⟩:=aa wr rfl;obtain⟨⟨x1,x2,x3,x4⟩,Hm⟩:∃x,A.ns.getD j nv0=x:=⟨_,rfl⟩;rw[Hm]at m3 m4 aa Lj;simp only at m3 m4 aa;have am:wr.drew.cell? ⟨B1,1,none⟩=some (.slice (some ⟨A.ga,0,none⟩) A.ns.length (A.ns.length+A.nj.length))∧wr.drew.cell? ⟨B3,1,none⟩=some (.slice (adr ag) j (j+jk.length))∧wr.drew.cell? ⟨A.ga,j*2,none⟩=some (.int .i64 x1)∧wr.drew.cell? ⟨A.ga,j*2+1,none⟩=some (.slice x2 x3 x4):=⟨m1,m2,m3,m4⟩;have HC:=aA hC;have Lf:=aA d5;have Hu:=aA ll;have tq:=aA aa;have Lb:=aA AR;have qk:Hid (j+1≤A.ns.length):=ai;clear aa Hm hC d5 ll za AR;go_wp2;refine bA (fun W=>W.cell? ⟨B1,1,none⟩=some (.slice (some ⟨A.ga,0,none⟩) A.ns.length (A.ns.length+A.nj.length))∧W.cell? ⟨B3,1,none⟩=some (.slice (adr ag) j (j+jk.length))∧W.cell? ⟨A.ga,j*2,none⟩=some (.int .i64 x1)∧W.cell? ⟨A.ga,j*2+1,none⟩=some (.slice x2 x3 x4)) 10 (by kernel_rfl) ?_;refine tJ 0 15 (.pointer (some ⟨B3,1,none⟩)) rfl am ?_;simp only[Act.put,sB,sZ,sS];refine tJ 1 16 (.slice (adr ag) j (j+jk.length)) rfl am ?_;simp only[Act.put,sB,sZ,sS];refine tJ 2 17 (.pointer (some ⟨B1,1,none⟩)) rfl am ?_;simp only[Act.put,sB,sZ,sS];refine tJ 3 18 (.slice (some ⟨A.ga,0,none⟩) A.ns.length (A.ns.length+A.nj.length)) rfl am ?_;simp only[Act.put,sB,sZ,sS];refine tJ 4 19 (.int .i64 j) rfl am ?_;simp only[Act.put,sB,sZ,sS];refine tJ 5 20 (.pointer (some ⟨A.ga,j*2,none⟩)) rfl am ?_;simp only[Act.put,sB,sZ,sS];refine tJ 6 21 (.agg #[.int .i64 x1,.slice x2 x3 x4]) rfl am ?_;simp only[Act.put,sB,sZ,sS];refine oE 7 rfl fun K2 ae=>?_;go_simp;obtain⟨G,HG⟩:=exH (wr.heap.size);obtain⟨W1,DZ⟩:=exH ((wr.alloc (.cells #[.int .i64 x1,.slice x2 x3 x4] 108)).drew);rw[←DZ.out,←HG.out];have Eu:Bl wr W1:=by rw[DZ.out];exact((bQ _ wr).alloc (nR _) _).drew
   have ij:Frm (fun _=>False) wr W1:=Frm.of_below Eu;have jy:yN.Sl W1 (.slice (some ⟨G,0,none⟩) 1 1) [(x1,x2,x3,x4)]:=by
    rw[DZ.out,HG.out];exact(Ely.Sl.new (Y:=yN) wr (x1,x2,x3,x4) rfl).below (bQ _ _).drew
   have zy:=HC.out.frm ij (fun _ q=>q.elim);have qg:=Lf.out.frm ij (fun _ _=>id);have Bd:A.ga<wr.heap.size:=lL Ql HC.out.bel.size;have yt:=tq.out W1 (ij.block _ Bd id);have rh:W1.cell? ⟨B1,1,none⟩=some (.slice (some ⟨A.ga,0,none⟩) A.ns.length (A.ns.length+A.nj.length))∧W1.cell? ⟨B3,1,none⟩=some (.slice (adr ag) j (j+jk.length))∧W1.cell? ⟨A.ga,j*2,none⟩=some (.int .i64 x1)∧W1.cell? ⟨A.ga,j*2+1,none⟩=some (.slice x2 x3 x4):=⟨by rw[zy.b1.cell];rfl,by rw[zy.b3.cell];rfl,yt.1,yt.2⟩;obtain⟨u,W2,a2,jk2,q8,hu,ro,ly,du⟩:=yN.append ag (A.ns.take j) jk [(x1,x2,x3,x4)] _ W1 qg jy (by have:=Nw.out;rw[Lb.out];simp;omega);rw[Lb.out]at q8 hu;have FK:u=.slice (adr a2) (j+1) (j+1+jk2.length):=hu;have av:∀g,ag=some g→g≠B1∧g≠B2∧g≠B3:=fun g e=>⟨(qg.arr g e).type_ne zy.b1 (by decide),(qg.arr g e).type_ne zy.b2 (by decide),(qg.arr g e).type_ne zy.b3 (by decide)⟩;have xg:=zy.frm du (fun g e=>⟨Hu.out g e,av g e⟩);have pt:=tq.out W2 ((du.block A.ga (lL Bd Eu.size) (fun e=>by have:=Hu.out _ e;omega)).trans (ij.block _ Bd id));have c3:W2.cell? ⟨B3,1,none⟩=some (.slice (adr ag) j (j+jk.length)):=by rw[xg.b3.cell];rfl
   have z3:=xg.b3.frozen 1;have h9:W2.cell? ⟨B1,1,none⟩=some (.slice (some ⟨A.ga,0,none⟩) A.ns.length (A.ns.length+A.nj.length))∧W2.cell? ⟨B3,1,none⟩=some (.slice (adr ag) j (j+jk.length))∧W2.cell? ⟨A.ga,j*2,none⟩=some (.int .i64 x1)∧W2.cell? ⟨A.ga,j*2+1,none⟩=some (.slice x2 x3 x4):=⟨by rw[xg.b1.cell];rfl,c3,pt.1,pt.2⟩;have vp:∀g,a2=some g→w.heap.size≤g:=fun g e=>(ly g e).elim (Hu.out g) fun q=>lT zy.bel.size q;have DP:∀g,a2=some g→¬g=B3:=fun g e=>(ro.arr g e).type_ne xg.b3 (by decide);have DY:Hid (CpR yN w (.int .i64 f.cur.length) (.slice (some ⟨A.ga,0,none⟩) A.ns.length (A.ns.length+A.nj.length)) (.slice (some ⟨A.gr,0,none⟩) f.roots.length (f.roots.length+A.rj.length)) (.int .i64 f.next) (.int .i64 f.gen) (.slice ma f.com.length mc) (.slice ta tn tc) B1 B2 B3 true (.slice (some ⟨A.gr,0,none⟩) f.roots.length (f.roots.length+A.rj.length)) A.ns (j+1) (W2.setCell ⟨B3,1,none⟩ (.slice (adr a2) (j+1) (j+1+jk2.length)))):=by
    refine⟨a2,jk2,xg.set1 _,?_,vp⟩;rw[Lj.out];exact ro.frm (Frm.set (S:=fun k=>k=B3) W2 (p:=⟨B3,1,none⟩) rfl _) DP
   refine ae _ _ (fun _=>rh) ?_;clear ae K2 am;refine oE 8 rfl fun K2 ae=>?_;refine lK _ _ _ _ rfl 23 rfl _ _ rfl rfl u W2 (q8 _) ?_;simp only[Act.put,sB,sZ,sS];subst FK;refine ae _ _ (fun _=>h9) ?_;clear ae K2 rh hu q8;refine oE 9 rfl fun K2 ae=>?_;go_simp;refine ae _ _ (fun _=>h9) ?_;clear ae K2;refine oE 10 rfl fun K2 ae=>?_;go_simp;refine ae _ _ (fun q=>absurd rfl q) ?_;clear ae K2;refine aW (by kernel_rfl) ?_ _;clear zy xg qg ro ij du yt pt ly av vp DP jy Eu;obtain⟨w3,dw⟩:=eZ (W2.setCell ⟨B3,1,none⟩ (.slice (adr a2) (j+1) (j+1+jk2.length)));rw[dw]at DY;rw[dw];clear dw c3 z3;go_wp2;go_roundw
   case rel=>exact⟨j+1,qk.out,by go_num,DY.out⟩
   case measure=>have:=qk.out;simp[intOf];omega
  ·obtain rfl:j=A.ns.length:=by omega
   have E5:∃g,ag=some g:=by
    cases ag with
    | none=>have e:=(d5.nil rfl).1;rw[List.take_of_length_le (nR _)]at e;have:=Nw.out;rw[e]at this;simp at this;omega
    | some g=>exact⟨g,rfl⟩
   obtain⟨g1,rfl⟩:=E5;obtain⟨jn,rfl⟩:∃jn,jn=jk:=⟨_,rfl⟩;rw[List.take_of_length_le (nR _)]at d5;have z3:=hC.b3.frozen 2;have c3:wr.cell? ⟨B3,2,none⟩=some (.slice (some ⟨A.gr,0,none⟩) f.roots.length (f.roots.length+A.rj.length)):=by rw[hC.b3.cell];rfl
   have xg:=hC.set2' (.slice none 0 0);have KL:=d5.frm (Frm.set (S:=fun k=>k=B3) wr (p:=⟨B3,2,none⟩) rfl (.slice none 0 0)) (fun g e=>(d5.arr g e).type_ne hC.b3 (by decide));have iv:=ll g1 rfl;obtain⟨w4,cn⟩:=eZ (wr.setCell ⟨B3,2,none⟩ (.slice none 0 0));obtain⟨NV1,Pr⟩:=eZ (Value.slice (adr (some g1)) A.ns.length (A.ns.length+jn.length));rw[cn]at xg KL;rw[Pr]at xg;have CA:=aA xg;have Et:=aA KL;have Uo:=aA Pr;have UZ:=aA iv;clear xg KL Pr d5 hC za ll iv;go_wp2;go_loopw [5] (fun i wr=>∃j:Nat,j≤f.roots.length∧i=.int .i64 j∧CpR yT w (.int .i64 f.cur.length) (.slice (some ⟨A.ga,0,none⟩) A.ns.length (A.ns.length+A.nj.length)) (.slice (some ⟨A.gr,0,none⟩) f.roots.length (f.roots.length+A.rj.length)) (.int .i64 f.next) (.int .i64 f.gen) (.slice ma f.com.length mc) (.slice ta tn tc) B1 B2 B3 false NV1 f.roots j wr∧yN.Rw wr (some g1) A.ns jn) (fun i _=>f.roots.length -(intOf i).toNat)
   case atStart=>exact⟨0,by omega,rfl,⟨none,[],CA.out,⟨fun g e=>(by cases e),fun _=>⟨by simp,rfl⟩,by simp⟩,fun g e=>(by cases e)⟩,Et.out⟩
   case round=>
    clear CA Et cn z3 c3;obtain⟨j,hj,rfl,⟨ag,jk,hC,d5,ll⟩,He⟩:=hrel;simp only[if_false,Bool.false_eq_true]at hC;have m1:wr.cell? ⟨B1,2,none⟩=some (.slice (some ⟨A.gr,0,none⟩) f.roots.length (f.roots.length+A.rj.length)):=by rw[hC.b1.cell];rfl
    have m2:wr.cell? ⟨B3,2,none⟩=some (.slice (adr ag) j (j+jk.length)):=by rw[hC.b3.cell];rfl
    have za:=Kb.out wr hC.bel;by_cases ai:j<f.roots.length
    ·have Jl:(j:Int) <(f.roots.length:Int):=by omega
     have aa:∀(W:World),W.heap[A.gr]?=wr.heap[A.gr]?→W.cell? ⟨A.gr,j*2,none⟩=some (.int .i64 (f.roots.getD j (0,0)).1)∧W.cell? ⟨A.gr,j*2+1,none⟩=some (.int .i64 (f.roots.getD j (0,0)).2):=fun W he=>by
      have hx:∀i,W.cell? ⟨A.gr,i,none⟩=wr.cell? ⟨A.gr,i,none⟩:=fun i=>by simp[World.cell?,he]
      rw[hx,hx];exact za.root ai
     have Lj:=aA (cC f.roots j (0,0) ai);have AR:(f.roots.take j).length=j:=by simp;omega
     obtain⟨m3,m4⟩:=aa wr rfl;obtain⟨⟨x1,x2⟩,Hm⟩:∃x,f.roots.getD j (0,0)=x:=⟨_,rfl⟩;rw[Hm]at m3 m4 aa Lj;simp only at m3 m4 aa;have am:wr.drew.cell? ⟨B1,2,none⟩=some (.slice (some ⟨A.gr,0,none⟩) f.roots.length (f.roots.length+A.rj.length))∧wr.drew.cell? ⟨B3,2,none⟩=some (.slice (adr ag) j (j+jk.length))∧wr.drew.cell? ⟨A.gr,j*2,none⟩=some (.int .i64 x1)∧wr.drew.cell? ⟨A.gr,j*2+1,none⟩=some (.int .i64 x2):=⟨m1,m2,m3,m4⟩;have HC:=aA hC;have Lf:=aA d5;have H3:=aA He;have Hu:=aA ll;have tq:=aA aa;have Lb:=aA AR;have qk:Hid (j+1≤f.roots.length):=ai;clear aa Hm hC d5 ll za AR He;go_wp2;refine bA (fun W=>W.cell? ⟨B1,2,none⟩=some (.slice (some ⟨A.gr,0,none⟩) f.roots.length (f.roots.length+A.rj.length))∧W.cell? ⟨B3,2,none⟩=some (.slice (adr ag) j (j+jk.length))∧W.cell? ⟨A.gr,j*2,none⟩=some (.int .i64 x1)∧W.cell? ⟨A.gr,j*2+1,none⟩=some (.int .i64 x2)) 10 (by kernel_rfl) ?_;refine tJ 0 33 (.pointer (some ⟨B3,2,none⟩)) rfl am ?_;simp only[Act.put,sB,sZ,sS];refine tJ 1 34 (.slice (adr ag) j (j+jk.length)) rfl am ?_;simp only[Act.put,sB,sZ,sS];refine tJ 2 35 (.pointer (some ⟨B1,2,none⟩)) rfl am ?_;simp only[Act.put,sB,sZ,sS];refine tJ 3 36 (.slice (some ⟨A.gr,0,none⟩) f.roots.length (f.roots.length+A.rj.length)) rfl am ?_;simp only[Act.put,sB,sZ,sS];refine tJ 4 37 (.int .i64 j) rfl am ?_;simp only[Act.put,sB,sZ,sS];refine tJ 5 38 (.pointer (some ⟨A.gr,j*2,none⟩)) rfl am ?_;simp only[Act.put,sB,sZ,sS];refine tJ 6 39 (.agg #[.int .i64 x1,.int .i64 x2]) rfl am ?_;simp only[Act.put,sB,sZ,sS];refine oE 7 rfl fun K2 ae=>?_;go_simp;obtain⟨G,HG⟩:=exH (wr.heap.size);obtain⟨W1,DZ⟩:=exH ((wr.alloc (.cells #[.int .i64 x1,.int .i64 x2] 77)).drew);rw[←DZ.out,←HG.out];have Eu:Bl wr W1:=by rw[DZ.out];exact((bQ _ wr).alloc (nR _) _).drew
     have ij:Frm (fun _=>False) wr W1:=Frm.of_below Eu;have jy:yT.Sl W1 (.slice (some ⟨G,0,none⟩) 1 1) [(x1,x2)]:=by
      rw[DZ.out,HG.out];exact(Ely.Sl.new (Y:=yT) wr (x1,x2) rfl).below (bQ _ _).drew
     have zy:=HC.out.frm ij (fun _ q=>q.elim);have qg:=Lf.out.frm ij (fun _ _=>id);have Bd:A.gr<wr.heap.size:=lL Qr HC.out.bel.size;have yt:=tq.out W1 (ij.block _ Bd id);have rh:W1.cell? ⟨B1,2,none⟩=some (.slice (some ⟨A.gr,0,none⟩) f.roots.length (f.roots.length+A.rj.length))∧W1.cell? ⟨B3,2,none⟩=some (.slice (adr ag) j (j+jk.length))∧W1.cell? ⟨A.gr,j*2,none⟩=some (.int .i64 x1)∧W1.cell? ⟨A.gr,j*2+1,none⟩=some (.int .i64 x2):=⟨by rw[zy.b1.cell];rfl,by rw[zy.b3.cell];rfl,yt.1,yt.2⟩;obtain⟨u,W2,a2,jk2,q8,hu,ro,ly,du⟩:=yT.append ag (f.roots.take j) jk [(x1,x2)] _ W1 qg jy (by have:=Nw.out;rw[Lb.out];simp;omega);rw[Lb.out]at q8 hu;have FK:u=.slice (adr a2) (j+1) (j+1+jk2.length):=hu;have av:∀g,ag=some g→g≠B1∧g≠B2∧g≠B3:=fun g e=>⟨(qg.arr g e).type_ne zy.b1 (by decide),(qg.arr g e).type_ne zy.b2 (by decide),(qg.arr g e).type_ne zy.b3 (by decide)⟩;have xg:=zy.frm du (fun g e=>⟨Hu.out g e,av g e⟩);have pt:=tq.out W2 ((du.block A.gr (lL Bd Eu.size) (fun e=>by have:=Hu.out _ e;omega)).trans (ij.block _ Bd id));have c3:W2.cell? ⟨B3,2,none⟩=some (.slice (adr ag) j (j+jk.length)):=by rw[xg.b3.cell];rfl
     have z3:=xg.b3.frozen 2;have h9:W2.cell? ⟨B1,2,none⟩=some (.slice (some ⟨A.gr,0,none⟩) f.roots.length (f.roots.length+A.rj.length))∧W2.cell? ⟨B3,2,none⟩=some (.slice (adr ag) j (j+jk.length))∧W2.cell? ⟨A.gr,j*2,none⟩=some (.int .i64 x1)∧W2.cell? ⟨A.gr,j*2+1,none⟩=some (.int .i64 x2):=⟨by rw[xg.b1.cell];rfl,c3,pt.1,pt.2⟩;have vp:∀g,a2=some g→w.heap.size≤g:=fun g e=>(ly g e).elim (Hu.out g) fun q=>lT zy.bel.size q;have DP:∀g,a2=some g→¬g=B3:=fun g e=>(ro.arr g e).type_ne xg.b3 (by decide);have DY:Hid (CpR yT w (.int .i64 f.cur.length) (.slice (some ⟨A.ga,0,none⟩) A.ns.length (A.ns.length+A.nj.length)) (.slice (some ⟨A.gr,0,none⟩) f.roots.length (f.roots.length+A.rj.length)) (.int .i64 f.next) (.int .i64 f.gen) (.slice ma f.com.length mc) (.slice ta tn tc) B1 B2 B3 false NV1 f.roots (j+1) (W2.setCell ⟨B3,2,none⟩ (.slice (adr a2) (j+1) (j+1+jk2.length)))):=by
      refine⟨a2,jk2,xg.set2' _,?_,vp⟩;rw[Lj.out];exact ro.frm (Frm.set (S:=fun k=>k=B3) W2 (p:=⟨B3,2,none⟩) rfl _) DP
     refine ae _ _ (fun _=>rh) ?_;clear ae K2 am;refine oE 8 rfl fun K2 ae=>?_;refine lK _ _ _ _ rfl 41 rfl _ _ rfl rfl u W2 (q8 _) ?_;simp only[Act.put,sB,sZ,sS];subst FK;refine ae _ _ (fun _=>h9) ?_;clear ae K2 rh hu q8;refine oE 9 rfl fun K2 ae=>?_;go_simp;refine ae _ _ (fun _=>h9) ?_;clear ae K2;refine oE 10 rfl fun K2 ae=>?_;go_simp;refine ae _ _ (fun q=>absurd rfl q) ?_;clear ae K2;refine aW (by kernel_rfl) ?_ _;have Le:Hid (yN.Rw (W2.setCell ⟨B3,2,none⟩ (.slice (adr a2) (j+1) (j+1+jk2.length))) (some g1) A.ns jn):=by
      have k1:=H3.out.frm ij (fun _ _=>id);have k2:=k1.frm du (fun g e q=>(k1.arr g e).type_ne (qg.arr g q) (by decide) rfl);exact k2.frm (Frm.set (S:=fun k=>k=B3) W2 (p:=⟨B3,2,none⟩) rfl _) (fun g e=>(k2.arr g e).type_ne xg.b3 (by decide))
     clear zy xg qg ro ij du yt pt ly av vp DP jy Eu;obtain⟨w3,dw⟩:=eZ (W2.setCell ⟨B3,2,none⟩ (.slice (adr a2) (j+1) (j+1+jk2.length)));rw[dw]at DY Le;rw[dw];clear dw c3 z3;go_wp2;go_roundw
     case rel=>exact⟨j+1,qk.out,by go_num,DY.out,Le.out⟩
     case measure=>have:=qk.out;simp[intOf];omega
    ·obtain rfl:j=f.roots.length:=by omega
     obtain⟨g2,rfl⟩:∃g,ag=some g:=by
      cases ag with
      | none=>have e:=(d5.nil rfl).1;rw[List.take_of_length_le (nR _)]at e;rw[e]at h1;simp at h1
      | some g=>exact⟨g,rfl⟩
     rw[List.take_of_length_le (nR _)]at d5;have oa:=ll g2 rfl;have Ws:=Uo.out;subst Ws;have K0:IsC wr B2 #[.int .i64 0,.slice none 0 0,.slice none 0 0,.int .i64 0,.int .i64 0,.slice none 0 0,.slice none 0 0] 57:=hC.b2;have v0:wr.cell? ⟨B3,0,none⟩=some (.int .i64 f.cur.length):=by rw[hC.b3.cell];rfl
     have v1:wr.cell? ⟨B3,1,none⟩=some (.slice (some ⟨g1,0,none⟩) A.ns.length (A.ns.length+jn.length)):=by rw[hC.b3.cell];rfl
     have v2:wr.cell? ⟨B3,2,none⟩=some (.slice (some ⟨g2,0,none⟩) f.roots.length (f.roots.length+jk.length)):=by rw[hC.b3.cell];rfl
     have v3:wr.cell? ⟨B3,3,none⟩=some (.int .i64 f.next):=by rw[hC.b3.cell];rfl
     have v4:wr.cell? ⟨B3,4,none⟩=some (.int .i64 f.gen):=by rw[hC.b3.cell];rfl
     have v5:wr.cell? ⟨B3,5,none⟩=some (.slice ma f.com.length mc):=by rw[hC.b3.cell];rfl
     have v6:wr.cell? ⟨B3,6,none⟩=some (.slice ta tn tc):=by rw[hC.b3.cell];rfl
     have y0:wr.cell? ⟨B2,0,none⟩=some (.int .i64 0):=K0.c rfl;have z0:=K0.frozen 0;have K1:=K0.set 0 (.int .i64 f.cur.length);have F1:Frm (fun k=>k=B2) wr (wr.setCell ⟨B2,0,none⟩ (.int .i64 f.cur.length)):=Frm.set (S:=fun k=>k=B2) wr (p:=⟨B2,0,none⟩) rfl _;obtain⟨W1,AB⟩:=eZ (wr.setCell ⟨B2,0,none⟩ (.int .i64 f.cur.length));rw[AB]at K1 F1;have y1:W1.cell? ⟨B2,1,none⟩=some (.slice none 0 0):=K1.c rfl;have z1:=K1.frozen 1;have K2:=K1.set 1 (.slice (some ⟨g1,0,none⟩) A.ns.length (A.ns.length+jn.length));have F2:Frm (fun k=>k=B2) W1 (W1.setCell ⟨B2,1,none⟩ (.slice (some ⟨g1,0,none⟩) A.ns.length (A.ns.length+jn.length))):=Frm.set (S:=fun k=>k=B2) W1 (p:=⟨B2,1,none⟩) rfl _;obtain⟨W2,vg⟩:=eZ (W1.setCell ⟨B2,1,none⟩ (.slice (some ⟨g1,0,none⟩) A.ns.length (A.ns.length+jn.length)));rw[vg]at K2 F2;have y2:W2.cell? ⟨B2,2,none⟩=some (.slice none 0 0):=K2.c rfl;have z2:=K2.frozen 2;have K3:=K2.set 2 (.slice (some ⟨g2,0,none⟩) f.roots.length (f.roots.length+jk.length));have F3:Frm (fun k=>k=B2) W2 (W2.setCell ⟨B2,2,none⟩ (.slice (some ⟨g2,0,none⟩) f.roots.length (f.roots.length+jk.length))):=Frm.set (S:=fun k=>k=B2) W2 (p:=⟨B2,2,none⟩) rfl _;obtain⟨W3,Aq⟩:=eZ (W2.setCell ⟨B2,2,none⟩ (.slice (some ⟨g2,0,none⟩) f.roots.length (f.roots.length+jk.length)));rw[Aq]at K3 F3;have y3:W3.cell? ⟨B2,3,none⟩=some (.int .i64 0):=K3.c rfl;have z3:=K3.frozen 3;have K4:=K3.set 3 (.int .i64 f.next);have F4:Frm (fun k=>k=B2) W3 (W3.setCell ⟨B2,3,none⟩ (.int .i64 f.next)):=Frm.set (S:=fun k=>k=B2) W3 (p:=⟨B2,3,none⟩) rfl _;obtain⟨W4,In⟩:=eZ (W3.setCell ⟨B2,3,none⟩ (.int .i64 f.next));rw[In]at K4 F4;have y4:W4.cell? ⟨B2,4,none⟩=some (.int .i64 0):=K4.c rfl;have z4:=K4.frozen 4;have K5:=K4.set 4 (.int .i64 f.gen);have F5:Frm (fun k=>k=B2) W4 (W4.setCell ⟨B2,4,none⟩ (.int .i64 f.gen)):=Frm.set (S:=fun k=>k=B2) W4 (p:=⟨B2,4,none⟩) rfl _;obtain⟨W5,Ar⟩:=eZ (W4.setCell ⟨B2,4,none⟩ (.int .i64 f.gen));rw[Ar]at K5 F5;have y5:W5.cell? ⟨B2,5,none⟩=some (.slice none 0 0):=K5.c rfl;have z5:=K5.frozen 5;have K6:=K5.set 5 (.slice ma f.com.length mc);have F6:Frm (fun k=>k=B2) W5 (W5.setCell ⟨B2,5,none⟩ (.slice ma f.com.length mc)):=Frm.set (S:=fun k=>k=B2) W5 (p:=⟨B2,5,none⟩) rfl _;obtain⟨W6,Vm⟩:=eZ (W5.setCell ⟨B2,5,none⟩ (.slice ma f.com.length mc));rw[Vm]at K6 F6;have y6:W6.cell? ⟨B2,6,none⟩=some (.slice none 0 0):=K6.c rfl;have z6:=K6.frozen 6;have K7:=K6.set 6 (.slice ta tn tc);have F7:Frm (fun k=>k=B2) W6 (W6.setCell ⟨B2,6,none⟩ (.slice ta tn tc)):=Frm.set (S:=fun k=>k=B2) W6 (p:=⟨B2,6,none⟩) rfl _;obtain⟨W7,P8⟩:=eZ (W6.setCell ⟨B2,6,none⟩ (.slice ta tn tc));rw[P8]at K7 F7;have u0:W7.cell? ⟨B2,0,none⟩=some (.int .i64 f.cur.length):=K7.c rfl;have u1:W7.cell? ⟨B2,1,none⟩=some (.slice (some ⟨g1,0,none⟩) A.ns.length (A.ns.length+jn.length)):=K7.c rfl;have u2:W7.cell? ⟨B2,2,none⟩=some (.slice (some ⟨g2,0,none⟩) f.roots.length (f.roots.length+jk.length)):=K7.c rfl;have u3:W7.cell? ⟨B2,3,none⟩=some (.int .i64 f.next):=K7.c rfl;have u4:W7.cell? ⟨B2,4,none⟩=some (.int .i64 f.gen):=K7.c rfl;have u5:W7.cell? ⟨B2,5,none⟩=some (.slice ma f.com.length mc):=K7.c rfl;have u6:W7.cell? ⟨B2,6,none⟩=some (.slice ta tn tc):=K7.c rfl;have F:Frm (fun k=>k=B2) wr W7:=(((((F1.trans F2).trans F3).trans F4).trans F5).trans F6).trans F7;have vi:Bl w W7:=hC.bel.trans (F.below hC.bel.size fun g e=>by subst e;have:=hC.n12;exact hC.lo2);have it:=Kb.out W7 vi;have r7:=d5.frm F (fun g e=>(d5.arr g e).type_ne K0 (by decide));have n7:=He.frm F (fun g e=>(He.arr g e).type_ne K0 (by decide));have O6:Hid (PS (.returned (.agg #[.int .i64 f.cur.length,.slice (some ⟨g1,0,none⟩) A.ns.length (A.ns.length+jn.length),.slice (some ⟨g2,0,none⟩) f.roots.length (f.roots.length+jk.length),.int .i64 f.next,.int .i64 f.gen,.slice ma f.com.length mc,.slice ta tn tc])) W7):=by
      show PS _ _
      rw[O7.out];refine O8.out _ _ {A with ga:=g1,nj:=jn,gr:=g2,rj:=jk} ?_ ⟨⟨n7.arr g1 rfl,fun b d hd=>it.nds.nd b d hd,n7.small⟩,it.ln,r7.arr g2 rfl,r7.small,it.com⟩ rfl UZ.out oa vi;unfold stV aL;rw[KW.out.1,KW.out.2.1]
     clear m2 hC d5 He ll za it r7 n7 F F1 F2 F3 F4 F5 F6 F7 K0 K1 K2 K3 K4 K5 K6 K7 vi;go_wp2;refine bodyPost_ret (v:=.agg #[.int .i64 f.cur.length,.slice (some ⟨g1,0,none⟩) A.ns.length (A.ns.length+jn.length),.slice (some ⟨g2,0,none⟩) f.roots.length (f.roots.length+jk.length),.int .i64 f.next,.int .i64 f.gen,.slice ma f.com.length mc,.slice ta tn tc]) (by simp[results,Tryz.results65,Tryz.f65,go_sem,u0,u1,u2,u3,u4,u5,u6];try rfl) rfl ?_;exact O6.out
theorem aBE(hq:16≤f.roots.length∨65535≤f.next)(w:World)(S:Nat)(A:SA)(hS:Sp w S A f):
  Calls Tryz.prog 66 #[.pointer (some ⟨S,0,none⟩),.int .i64 t] w fun r w'=>r=.returned (.tuple #[.int .i64 0,.int .i64 4])∧w'=w:=by
 obtain⟨_,_,s2,s3,_⟩:=hS.cells;by_cases q:16≤f.roots.length
 ·have Ll:(16:Int)≤(f.roots.length:Int):=by omega
  clear hS hq q;go_enter Tryz.func66,Tryz.ntmps66;go_wp2;refine bodyPost_ret (v:=.tuple #[.int .i64 0,.int .i64 4]) (by simp[results,Tryz.f66,go_sem]) rfl ?_;exact⟨rfl,rfl⟩
 ·have Ll:¬((16:Int)≤(f.roots.length:Int)):=by omega
  have RR:(65535:Int)≤f.next:=hq.resolve_left q;clear hS hq q;go_enter Tryz.func66,Tryz.ntmps66;go_wp2;refine bodyPost_ret (v:=.tuple #[.int .i64 0,.int .i64 4]) (by simp[results,Tryz.f66,go_sem]) rfl ?_;exact⟨rfl,rfl⟩
theorem aEI(h1:f.roots.length=1)(w:World)(S:Nat)(A:SA)(hS:Sp w S A f):
  Calls Tryz.prog 67 #[.pointer (some ⟨S,0,none⟩),.int .i64 t] w fun r w'=>r=.returned (.tuple #[.int .i64 0,.int .i64 18])∧w'=w:=by
 obtain⟨_,_,s2,_⟩:=hS.cells;rw[h1]at s2;clear hS;go_enter Tryz.func67,Tryz.ntmps67;go_wp2;refine bodyPost_ret (v:=.tuple #[.int .i64 0,.int .i64 18]) (by simp[results,Tryz.f67,go_sem]) rfl ?_;exact⟨rfl,rfl⟩
def opM(f:fZ)(kind tree:Int)(key val:ByteArray):fZ×An:=
 if(aY f kind tree key val).2≠0 then(f,(aY f kind tree key val).2,0,.empty)else
 if kind=1 then lY f (aY f kind tree key val).1 key val else
 if kind=2 then mH f (aY f kind tree key val).1 key else
 if kind=3 then lX f (aY f kind tree key val).1 else
 if kind=4 then nF f (aY f kind tree key val).1 else nK f (aY f kind tree key val).1 key
structure pG(f g:fZ):Prop where
 inv:Inv g
 ve:VE g
 gen:g.gen=f.gen
 com:g.com=f.com
 table:g.table=f.table
 cur:g.cur.length=f.cur.length
theorem pG.refl(h:Inv f)(hV:VE f):pG f f:=⟨h,hV,rfl,rfl,rfl,rfl⟩
theorem aHF(h:Inv f)(hV:VE f)(ht:t<f.roots.length)(key val:ByteArray):pG f (lY f t key val).1:=by
 obtain⟨hW,ez,_⟩:=h.hOf ht;unfold lY;split
 ·exact .refl h hV
 ·rename_i g th hp
  split
  ·exact .refl h hV
  ·obtain⟨H',a,b,c⟩:=aBJ hW ez hp
   exact⟨h.after a b c,aMF hW hV hp,c.gen,c.com,c.table,c.cur⟩
theorem aHC(h:Inv f)(hV:VE f)(ht:t<f.roots.length)(key:ByteArray):pG f (mH f t key).1:=by
 obtain⟨hW,ez,_⟩:=h.hOf ht;unfold mH;split
 ·exact .refl h hV
 ·rename_i v hf
  have hm:=kS hW.ok hf;split
  ·exact .refl h hV
  ·rename_i g hp
   split
   ·exact .refl h hV
   ·obtain⟨H',a,b,c⟩:=vJ hW ez hm hp
    exact⟨h.after a b c,aFJ hW ez hm hV hp,c.gen,c.com,c.table,c.cur⟩
theorem aHA(h:Inv f)(hV:VE f)(ht:t<f.roots.length):pG f (lX f t).1:=by
 unfold lX;split
 ·exact .refl h hV
 ·rename_i hq
  exact⟨h.clone ht (by omega) (by omega),aIO hV t,rfl,rfl,rfl,by simp[cU]⟩
theorem aHD(h:Inv f)(hV:VE f)(ht:t<f.roots.length):pG f (nF f t).1:=by
 obtain⟨hW,ez,_⟩:=h.hOf ht;unfold nF;split
 ·exact .refl h hV
 ·obtain⟨a,_,_,b,_,_,c,d,e,_⟩:=wJ h ht (by omega) hW.ok
  exact⟨a,aKR h hV ht (by omega) hW.ok,c,d,e,b⟩
theorem aHE(h:Inv f)(hV:VE f)(t:Nat)(key:ByteArray):pG f (nK f t key).1:=by
 unfold nK;split
 ·exact .refl h hV
 ·exact .refl h hV
theorem xR(h:Inv f){kind tree:Int}{val:ByteArray}:(aY f kind tree key val).1<f.roots.length:=by
 have:=h.ne
 unfold aY;split
 ·exact this
 ·split
  ·exact this
  ·split
   ·exact this
   ·rename_i t ht
    split
    ·exact this
    ·exact(oM ht).1
theorem aJX(h:Inv f)(hV:VE f)(kind tree:Int)(key val:ByteArray):pG f (opM f kind tree key val).1:=by
 have ht:=xR h (kind:=kind) (tree:=tree) (key:=key) (val:=val);unfold opM;split
 ·exact .refl h hV
 ·split
  ·exact aHF h hV ht key val
  ·split
   ·exact aHC h hV ht key
   ·split
    ·exact aHA h hV ht
    ·split
     ·exact aHD h hV ht
     ·exact aHE h hV _ key
theorem IsC.range{g:Nat}{t:TypeId}(h:IsC w g cs t):w.rangeAt g 0 cs.toList:=fun j v hv=>by
 rw[Nat.zero_add,h.cell];simpa using hv
theorem IsC.there{g:Nat}{t:TypeId}(h:IsC w g cs t):w.there g 0 cs.size:=fun j hj=>by
 rw[Nat.zero_add,h.cell];exact⟨by simp[hj],h.frozen j⟩
theorem IsC.lay{g:Nat}{t:TypeId}(h:IsC w g cs t)(hs:vs.size=cs.size):IsC (w.setCells g 0 vs.toList) g vs t:=by
 have:=IsC.sets (cs:=cs.toList) vs.toList 0 (by simpa using h) (by simp;omega)
 have e:spl cs.toList 0 vs.toList=vs.toList:=by
  unfold spl;rw[List.take_zero,List.nil_append,List.drop_of_length_le (by simp;omega),List.append_nil]
 rw[e]at this;simpa using this
theorem aM(ty:TypeId)(x y:Operand)(ho:o.op=.store ty x y)(g:Nat)(hg:IsC w g cs ty)(hx:a.eval x=.pointer (some ⟨g,0,none⟩))(hy:a.eval y=.agg vs)(hs:vs.size=cs.size)
  (hi:(Tryz.prog.info? ty).map (·.size)=some vs.size) (h1:vs.all (·.oneCell')=true) (h:∀w',IsC w' g vs ty→Frm (fun k=>k=g) w w'→K (a.put o.dst undef) w'):o.wp Tryz.prog a w K Q:=
 wp_store_mid ty x y ho g 0 vs hx hy (by rw[hs];exact hg.there) hi h1 (h _ (hg.lay hs) (Frm.sets (S:=fun k=>k=g) _ rfl _ _))
theorem lG(ty:TypeId)(x:Operand)(ho:o.op=.load ty x)(g:Nat)(hg:IsC w g cs ty)(hx:a.eval x=.pointer (some ⟨g,0,none⟩))(hr:(Tryz.prog.underlying ty).map (·.isRow)=some true)(hi:(Tryz.prog.info? ty).map (·.size)=some cs.size):
  (execOp a.eval o).run Tryz.prog w=.ok (.value (.agg cs)) w:=by
 obtain⟨d,hu,hd⟩:∃d,Tryz.prog.underlying ty=some d∧d.isRow=true:=by
  cases e:Tryz.prog.underlying ty with
  | none=>rw[e]at hr;cases hr
  | some d=>rw[e]at hr;exact⟨d,rfl,by simpa using hr⟩
 unfold execOp;simp only[ho,hx,Instr.loadAt,Instr.sureAddr,Sem.run_bind,Sem.run_pure,Result.andThen_ok,run_loadVar_mid w g 0 ty cs.toList d hg.range hu hd (by simpa using hi),Array.toArray_toList]
theorem aEH(c:Int)(w:World):Calls Tryz.prog 64 #[.int .i64 c] w fun e w'=>e=.returned (bN (c,0,.empty))∧Bl w w':=by
 have gz:=jR;go_enter Tryz.func64,Tryz.ntmps64;go_wp2;have hc:=IsC.new w #[.int .i64 c,.int .i64 0,.string {data:=#[]}] 92;have u0:(w.alloc (.cells #[.int .i64 c,.int .i64 0,.string {data:=#[]}] 92)).cell? ⟨w.heap.size,0,none⟩=some (.int .i64 c):=hc.c rfl;have u1:(w.alloc (.cells #[.int .i64 c,.int .i64 0,.string {data:=#[]}] 92)).cell? ⟨w.heap.size,1,none⟩=some (.int .i64 0):=hc.c rfl;have u2:(w.alloc (.cells #[.int .i64 c,.int .i64 0,.string {data:=#[]}] 92)).cell? ⟨w.heap.size,2,none⟩=some (.string {data:=#[]}):=hc.c rfl;refine bodyPost_ret (v:=bN (c,0,.empty)) (by simp[bN,results,Tryz.results64,Tryz.f64,go_sem,u0,u1,u2];try rfl) rfl ?_;exact⟨rfl,(bQ _ w).alloc (nR _) _⟩
def aAM(pos:String)(d1 d2:Nat)(c:Int):Array Oper:=
 #[{dst:=some d1,op:=.load 57 (.tmp 2),type:=57,pos:=pos,after:=#[],guard:=none},
  {dst:=some d2,op:=.call {callee:=.value (.func 64),args:=#[.const (.int .i64 c)],argTypes:=#[2]},type:=92,pos:=pos,after:=#[],guard:=none},
  {dst:=none,op:=.store 57 (.tmp 4) (.tmp d1),type:=0,pos:=pos,after:=#[{on:=0,ground:=.data},{on:=1,ground:=.chain},{on:=0,ground:=.phase},{on:=1,ground:=.textOnly .lateStoresUnsure}],guard:=none},
  {dst:=none,op:=.store 92 (.tmp 5) (.tmp d2),type:=0,pos:=pos,after:=#[{on:=1,ground:=.data},{on:=2,ground:=.chain},{on:=0,ground:=.phase},{on:=1,ground:=.phase},{on:=2,ground:=.phase}],guard:=none}]
theorem fX{ri:Nat}{pos:String}{d1 d2:Nat}{c:Int}{B4 B5:Nat}{x y4 y5:Array Value}(h2:IsC w B2 x 57)(hx:x.size=7)(ff:x.all (·.oneCell')=true)(h4:IsC w B4 y4 57)(Xl:y4.size=7)(h5:IsC w B5 y5 92)(Xm:y5.size=3)
  (n24:B2≠B4) (e2:a.eval (.tmp 2)=.pointer (some ⟨B2,0,none⟩)) (e4:∀v1 v2,((a.put (some d1) v1).put (some d2) v2).eval (.tmp 4)=.pointer (some ⟨B4,0,none⟩)) (e5:∀v1 v2,((a.put (some d1) v1).put (some d2) v2).eval (.tmp 5)=.pointer (some ⟨B5,0,none⟩))
  (f1:∀v1 v2,((a.put (some d1) v1).put (some d2) v2).eval (.tmp d1)=v1) (f2:∀v1 v2,((a.put (some d1) v1).put (some d2) v2).eval (.tmp d2)=v2)
  (wm:Region.free .any (aAM pos d1 d2 c) (Array.replicate (aAM pos d1 d2 c).size false) 0=true)
  (hQ:∀c a' w v,Q (.panic c) (a'.put (some d1) v) w→Q (.panic c) a' w)
  (h:∀w',IsC w' B4 x 57→IsC w' B5 #[.int .i64 c,.int .i64 0,.string .empty] 92→Frm (fun k=>k=B4∨k=B5) w w'→Q .normal ((a.put (some d1) (.agg x)).put (some d2) (bN (c,0,.empty))) w'):
  (Code.region ri (aAM pos d1 d2 c) true).wp Tryz.prog Q a w:=by
 refine bA (fun W=>IsC W B2 x 57) 3 (by kernel_rfl) ?_;have Ai:IsC w.drew B2 x 57:=h2.drew;refine vU (i:=0) d1 (.agg x) (by kernel_rfl) rfl (by kernel_rfl) wm (by kernel_rfl) (fun c a' w hh=>hQ c a' w _ hh) rfl rfl Ai (fun w' hw=>lG _ _ rfl B2 hw e2 (by kernel_rfl) (by rw[hx];kernel_rfl)) ?_;refine oE 1 rfl fun K2 ae=>?_;show Oper.wp Tryz.prog {dst:=some d2,op:=.call {callee:=.value (.func 64),args:=#[.const (.int .i64 c)],argTypes:=#[2]},type:=92,pos:=pos,after:=#[],guard:=none} _ _ _ _
 go_simp
 refine(aEH c w.drew).mono ?_;rintro e w1 ⟨rfl,ao⟩;have ij:Frm (fun _=>False) w w1:=(Frm.drew _ w).trans (Frm.of_below ao);refine ae _ _ (fun _=>h2.frm ij id) ?_;clear ae K2;refine oE 2 rfl fun K2 ae=>?_;refine aM _ _ _ rfl B4 (h4.frm ij id) (e4 _ _) (f1 _ _) (hx.trans Xl.symm) (by rw[hx];kernel_rfl) ff fun w2 k4 kF=>?_;have du:Frm (fun k=>k=B4) w w2:=(ij.wide fun _ _ q=>q.elim).trans kF;have n45:B5≠B4:=h5.type_ne h4 (by decide);refine ae _ _ (fun _=>h2.frm du n24) ?_;clear ae K2;refine oE 3 rfl fun K2 ae=>?_;refine aM (vs:=#[.int .i64 c,.int .i64 0,.string .empty]) _ _ _ rfl B5 (h5.frm du n45) (e5 _ _) (f2 _ _) Xm.symm (by kernel_rfl) (by simp[Value.oneCell']) fun w3 k5 kF5=>?_;refine ae _ _ (fun q=>absurd rfl q) ?_;clear ae K2;refine aW (by kernel_rfl) ?_ _;exact h w3 (k4.frm kF5 (Ne.symm n45)) k5 ((du.wide fun _ _ q=>.inl q).trans (kF5.wide fun _ _ q=>.inr q))
