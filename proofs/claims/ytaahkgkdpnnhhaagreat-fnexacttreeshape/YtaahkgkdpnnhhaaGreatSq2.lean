import Derived.Test.YtaahkgkdpnnhhaaGreatGw
import Derived.Test.YtaahkgkdpnnhhaaGreatFo33
set_option maxHeartbeats 9999999
set_option maxRecDepth 99999
set_option linter.all false
namespace Go.Proofs.YtaahkgkdpnnhhaaGreat
open Go.RowKit Fo
variable{gh:Int}{nj ns:List NV}{x:NV}{S b cap g ga len o q:Nat}{nodes:Nat→Option Nd}{d:Nd}{α:Type}{u:Value}{w w':World}{f:fZ}
structure NdR(w:World)(x:NV)(d:Nd):Prop where
 k:x.1=d.1
 e:yE.Sl w (.slice x.2.1 x.2.2.1 x.2.2.2) d.2
 c:x.2.2.1≤x.2.2.2
abbrev nv0:NV:=(0,none,0,0)
structure iZ(w:World)(ga:Nat)(ns nj:List NV)(nodes:Nat→Option Nd):Prop where
 arr:IsC w ga (yN.row (ns++nj)) 108
 nd:∀b d,nodes b=some d→b<ns.length∧NdR w (ns.getD b nv0) d
 small:ns.length+nj.length≤maxLen
theorem NdR.frm{S:Nat→Prop}(h:NdR w x d)(k:Frm S w w')(hS:∀g cs,IsC w g cs 110→¬S g):NdR w' x d:=⟨h.k,h.e.frm k hS,h.c⟩
theorem iZ.frm{S:Nat→Prop}(h:iZ w ga ns nj nodes)(k:Frm S w w')(hS:∀g cs,IsC w g cs 110→¬S g)(hg:¬S ga):iZ w' ga ns nj nodes:=
 ⟨h.arr.frm k hg,fun b d hd=>⟨(h.nd b d hd).1,(h.nd b d hd).2.frm k hS⟩,h.small⟩
theorem iZ.below(h:iZ w ga ns nj nodes)(k:Bl w w'):iZ w' ga ns nj nodes:=h.frm (Frm.of_below (S:=fun _=>False) k) (fun _ _ _=>id) id
theorem iZ.sub{nodes':Nat→Option Nd}(h:iZ w ga ns nj nodes)(hs:∀b d,nodes' b=some d→nodes b=some d):iZ w ga ns nj nodes':=⟨h.arr,fun b d hd=>h.nd b d (hs b d hd),h.small⟩
theorem iZ.at(h:iZ w ga ns nj nodes)(hd:nodes b=some d):∃a c,yE.Sl w (.slice a d.2.length c) d.2∧b<ns.length∧ns.getD b nv0=(d.1,a,d.2.length,c)∧w.cell? ⟨ga,b*2,none⟩=some (.int .i64 d.1)∧w.cell? ⟨ga,b*2+1,none⟩=some (.slice a d.2.length c)∧d.2.length≤c:=by
 obtain⟨hb,hk,he,ol⟩:=h.nd b d hd;obtain⟨a,c,hs⟩:=he.len;have e1:ns.getD b nv0=(d.1,a,d.2.length,c):=by
  generalize ns.getD b nv0=x at *;obtain⟨x1,x2,x3,x4⟩:=x;simp only[Value.slice.injEq]at hs;obtain⟨rfl,rfl,rfl⟩:=hs;simp only at hk;rw[hk]
 rw[e1]at he ol;have hx:∀j,j<2→w.cell? ⟨ga,b*2+j,none⟩=(aCE (d.1,a,d.2.length,c))[j]?:=fun j hj=>by
  rw[h.arr.cell];have:=yN.at (ns++nj) (i:=b) (j:=j) (by simp;omega) hj;have e2:(ns++nj).getD b yN.z=(d.1,a,d.2.length,c):=by rw[cX,if_pos hb];exact e1
  rw[e2]at this;exact this
 exact⟨a,c,he,hb,e1,hx 0 (by omega),hx 1 (by omega),ol⟩
theorem IsC.type_ne{g':Nat}{cs cs':Array Value}{t t':TypeId}(h:IsC w g cs t)(h':IsC w g' cs' t')(ht:t≠t'):g≠g':=fun e=>by
 subst e;unfold IsC at h h';rw[h]at h';simp only[sJ,Obj.cells.injEq]at h';exact ht h'.2.1
def K0(f:fZ)(b:Nat):List Nat:=bZ (f.nodes b)
theorem aKH(b:Nat)(d:Nd)(h:f.nodes b=some d):K0 f b=kids d:=by unfold K0;rw[h];rfl
structure WkP(f:fZ)(w:World)(gc:Nat)(cj:List Int)(P:List Nat)(c':List Int)(r:Ending)(w':World):Prop where
 r:r=.returned (.tuple #[])
 j:∃e',J f (rc f.roots) c' e' P
 c:IsC w' gc (y64.row (c'++cj)) 2
 frm:Frm (fun k=>k=gc) w w'
structure WkI(f:fZ)(w:World)(gc:Nat)(cj:List Int)(P:List Nat)(c':List Int)(w':World):Prop where
 j:∃e',J f (rc f.roots) c' e' P
 c:IsC w' gc (y64.row (c'++cj)) 2
 frm:Frm (fun k=>k=gc) w w'
theorem aBA{ht:Nat→Nat}(hI:IC f)(hh:Hts f.nodes ht)(hK:∀x,cu f x≤1000000)(hE:∀b d,f.nodes b=some d→d.2.length≤10)(ga:Nat)(ns nj:List NV):
  ∀(m b:Nat) (d:Nd) (gc:Nat) (cj c:List Int) (e:Nat→Bool) (P:List Nat) (w:World),ht b=m→f.nodes b=some d→iZ w ga ns nj f.nodes→IsC w gc (y64.row (c++cj)) 2→J f (rc f.roots) c e (kids d++P)→
   Calls Tryz.prog 54 #[.slice (some ⟨ga,0,none⟩) ns.length (ns.length+nj.length),.int .i64 b,.slice (some ⟨gc,0,none⟩) c.length (c.length+cj.length)] w (WkP f w gc cj P (mB (K0 f) m b c)):=by
 intro m;induction m with
 | zero=>
  intro b d gc cj c e P w hm hd hN hc hJ;obtain⟨a,cp,dw,hb,_,c0,c1,_⟩:=hN.at hd;have hk:d.1=1∧kids d=[]:=by
   rcases hh b d hd with⟨q,_⟩ | ⟨q,q'⟩
   ·exact⟨q,by simp[kids,q]⟩
   ·exfalso
    rcases hI.kb b d hd with q2 | ⟨_,q2,_⟩
    ·omega
    ·cases hl:d.2 with
     | nil=>exact q2 hl
     | cons x l=>
      have:ch x∈kids d:=by simp[kids,q,hl]
      have:=q' _ this;omega
  have gx:(d.1 == 2)=false:=by rw[hk.1];rfl
  rw[hk.2]at hJ;have d5:(b:Int) <(ns.length:Int):=by omega
  have HX:Hid (WkP f w gc cj P (mB (K0 f) 0 b c) (.returned (.tuple #[])) w):=⟨rfl,⟨e,hJ⟩,hc,Frm.refl _ _⟩;clear hk hJ hc;go_enter Tryz.func54,Tryz.ntmps54;go_wp2;refine bodyPost_ret (v:=.tuple #[]) (by simp[results,Tryz.f54,go_sem]) rfl ?_;exact HX.out
 | succ m ih=>
  intro b d gc cj c e P w hm hd hN hc hJ;obtain⟨a,cp,dw,hb,_,c0,c1,_⟩:=hN.at hd;have hk:d.1=2∧∀k∈kids d,ht k=m:=by
   rcases hh b d hd with⟨_,q⟩ | ⟨q,q'⟩
   ·omega
   ·exact⟨q,fun k hk=>by have:=q' k hk;omega⟩
  have iw:kids d=d.2.map ch:=by rw[kids,if_pos hk.1]
  have gx:(d.1 == 2)=true:=by rw[hk.1];rfl
  have d5:(b:Int) <(ns.length:Int):=by omega
  have Jf:ga≠gc:=hN.arr.type_ne hc (by decide);have LK:Hid (c.length=f.cur.length):=hJ.len;have rh:=hE b d hd;have Av:d.2≠[]:=by
   rcases hI.kb b d hd with q2 | ⟨_,q2,_⟩
   ·omega
   ·exact q2
  obtain⟨g,o,cp',he,hg,aa⟩:=dW dw (List.length_pos_iff.2 Av);cases he;have bp:g≠gc:=by
   rcases dw with⟨q,_⟩ | ⟨g',o',cap',xs,q,q1,_⟩
   ·cases q
   ·cases q;exact q1.type_ne hc (by decide)
  have HW:Hid (mB (K0 f) (m+1) b c=(kids d).foldl (vis (K0 f) m) c):=by show _=_;rw[tU,aKH b d hd]
  generalize mB (K0 f) (m+1) b c=cW at *;go_enter Tryz.func54,Tryz.ntmps54;go_wp2;go_loopw [6,7] (fun i _ wr=>∃j:Nat,j≤d.2.length∧i=.int .i64 j∧WkI f w gc cj ((kids d).drop j++P) (((kids d).take j).foldl (vis (K0 f) m) c) wr) (fun i _ _=>d.2.length -(intOf i).toNat)
  case atStart=>exact⟨0,by omega,rfl,⟨e,by simpa using hJ⟩,by simpa using hc,Frm.refl _ _⟩
  case round=>
   obtain⟨j,hj,rfl,⟨⟨e1,ot⟩,en,iN⟩⟩:=hrel;have c0':wr.cell? ⟨ga,b*2,none⟩=some (.int .i64 d.1):=by rw[←c0];simp[World.cell?,iN.block ga hN.arr.lt Jf]
   have c1':wr.cell? ⟨ga,b*2+1,none⟩=some (.slice (some ⟨g,o,none⟩) d.2.length cp):=by rw[←c1];simp[World.cell?,iN.block ga hN.arr.lt Jf]
   by_cases ai:j<d.2.length
   ·obtain⟨x0,x1,x2⟩:=aa wr j (iN.block g hg bp) ai
    have dq:(j:Int) <(d.2.length:Int):=by omega
    have bz:0≤(d.2.getD j e0).2.2:=by
     have fy:f.nodes b=some (2,d.2):=by rw[hd,←hk.1]
     exact hI.child_pos fy ai
    obtain⟨k,pd⟩:=eZ (kd d.2 j);have mw:(d.2.getD j e0).2.2=(k:Int):=by rw[←pd];unfold kd ch;omega
    rw[mw]at x2;have EV:k∈kids d:=by
     have fy:d=(2,d.2):=by rw[←hk.1]
     rw[fy,←pd];exact aP ai
    obtain⟨dk,Fu⟩:=hI.kid_live hd EV;have tq:k<f.cur.length:=hI.lt Fu;have Gr:(kids d).drop j=k ::(kids d).drop (j+1):=by
     rw[iw,List.drop_eq_getElem_cons (by simpa using ai)];congr 1;rw[←pd];unfold kd;rw[List.getElem_map,gD,gE ai];rfl
    rw[Gr,List.cons_append]at ot;have GL:(kids d).take (j+1)=(kids d).take j++[k]:=by
     rw[List.take_add_one];congr 1;have:(kids d)[j]?=some k:=by
      have:=congrArg List.head? Gr
      rw[List.head?_drop]at this;simpa using this
     rw[this];rfl
    have HV:Hid (((kids d).take (j+1)).foldl (vis (K0 f) m) c=vis (K0 f) m (((kids d).take j).foldl (vis (K0 f) m) c) k):=by
     show _=_
     rw[GL,List.foldl_append];rfl
    have kz:=ot.len;rw[←LK.out]at kz;have BJ:=ot.le hI k;have VR:=hK k;rw[←LK.out]at tq;generalize ((kids d).take j).foldl (vis (K0 f) m) c=cj1 at *;have mx:k<cj1.length:=by omega
    obtain⟨x,hx⟩:=eZ (cj1.getD k 0);have y0:=jE en mx;have z0:=en.frozen k;have y1:=oN en mx (x+1);have Kq:(k:Int) <(c.length:Int):=by omega
    rw[hx]at BJ y0;have Na:IntKind.i64.wrap (x+1)=x+1:=IntWalk.i64_in _ ⟨by omega,by omega⟩;have HI:Hid (gY cj1 k=cj1.set k (x+1)):=by show _=_;unfold gY;rw[hx]
    obtain⟨w2,bw⟩:=eZ (wr.setCell ⟨gc,k,none⟩ (.int .i64 (x+1)));rw[bw]at y1;have du:Frm (fun k=>k=gc) w w2:=iN.trans (by rw[←bw];exact Frm.set (S:=fun k=>k=gc) wr (p:=⟨gc,k,none⟩) rfl _);have Jo:k <(cj1.set k (x+1)).length:=by simpa using mx
    have y2:=jE y1 Jo;have e5:(cj1.set k (x+1)).getD k 0=x+1:=by rw[eM,if_pos ⟨rfl,mx⟩]
    rw[e5]at y2;have sc:iZ w2 ga ns nj f.nodes:=hN.frm du (fun g cs hg=>hg.type_ne hc (by decide)) Jf;have ah:(cj1.set k (x+1)).length=c.length:=by rw[List.length_set];omega
    by_cases h0:x=0
    ·have ow:=ot.first hI Fu (hx.trans h0)
     have hv:vis (K0 f) m cj1 k=mB (K0 f) m k (gY cj1 k):=by
      unfold vis;rw[if_pos (by rw[HI.out,e5,h0];rfl)]
     rw[hv]at HV;rw[HI.out]at HV ow;have xu:=ih k dk gc cj _ _ _ w2 (hk.2 k EV) Fu sc y1 ow;rw[ah]at xu;have yl:((x+1:Int) == 1)=true:=by rw[h0];rfl
     have Ow:Hid (Calls Tryz.prog 54 #[.slice (some ⟨ga,0,none⟩) ns.length (ns.length+nj.length),.int .i64 k,.slice (some ⟨gc,0,none⟩) c.length (c.length+cj.length)] w2 fun r w'=>r=.returned (.tuple #[])∧WkI f w gc cj ((kids d).drop (j+1)++P) (((kids d).take (j+1)).foldl (vis (K0 f) m) c) w'):=by
      refine xu.mono ?_;rintro r w3 ⟨rfl,k1,k2,k3⟩;rw[HV.out];exact⟨rfl,k1,k2,du.trans k3⟩
     clear aa ot ow y1 e5 BJ h0 HI sc hv xu HV ah hx pd mw Gr GL iw kz;go_wp2_with fail;refine Ow.out.mono ?_;rintro r w3 ⟨rfl,mh⟩;go_wp2;go_roundw
     case rel=>exact⟨j+1,by omega,by go_num,mh⟩
     case measure=>simp[intOf];omega
    ·have ow:=ot.more (by rw[←LK.out];exact tq) (by rw[hx];exact h0)
     have hv:vis (K0 f) m cj1 k=gY cj1 k:=by
      unfold vis;rw[if_neg (by rw[HI.out,e5];omega)]
     rw[hv]at HV;rw[HI.out]at HV ow;have yl:((x+1:Int) == 1)=false:=by rw[beq_eq_false_iff_ne];omega
     have HR:Hid (WkI f w gc cj ((kids d).drop (j+1)++P) (((kids d).take (j+1)).foldl (vis (K0 f) m) c) w2):=by
      show WkI _ _ _ _ _ _ _
      rw[HV.out];exact⟨⟨_,ow⟩,y1,du⟩
     clear aa ot ow y1 e5 BJ h0 HI sc hv HV ah hx pd mw Gr GL iw kz;go_wp2;go_roundw
     case rel=>exact⟨j+1,by omega,by go_num,HR.out⟩
     case measure=>simp[intOf];omega
   ·obtain rfl:j=d.2.length:=by omega
    have e1':(kids d).length=d.2.length:=by rw[iw];simp
    rw[List.drop_of_length_le (by omega),List.nil_append]at ot;rw[List.take_of_length_le (by omega),←HW.out]at ot en;have HR:Hid (WkP f w gc cj P cW (.returned (.tuple #[])) wr):=⟨rfl,⟨e1,ot⟩,en,iN⟩;clear aa ot iw;go_wp2;refine bodyPost_ret (v:=.tuple #[]) (by simp[results,Tryz.f54,go_sem]) rfl ?_;exact HR.out
structure SA where
 ga:Nat
 ns:List NV
 nj:List NV
 gr:Nat
 rj:List (Int×Int)
 cv:Value
 tv:Value
def aK(A:SA)(f:fZ):Array Value:=#[.int .i64 f.cur.length,.slice (some ⟨A.ga,0,none⟩) A.ns.length (A.ns.length+A.nj.length),.slice (some ⟨A.gr,0,none⟩) f.roots.length (f.roots.length+A.rj.length),.int .i64 f.next,.int .i64 f.gen,A.cv,A.tv]
structure SpV(w:World)(A:SA)(f:fZ):Prop where
 nds:iZ w A.ga A.ns A.nj f.nodes
 ln:A.ns.length=f.cur.length
 rts:IsC w A.gr (yT.row (f.roots++A.rj)) 77
 rs:f.roots.length+A.rj.length≤maxLen
 com:y64.Sl w A.cv f.com
structure Sp(w:World)(S:Nat)(A:SA)(f:fZ):Prop where
 box:IsC w S (aK A f) 57
 v:SpV w A f
theorem SpV.frm{Z:Nat→Prop}{A:SA}(h:SpV w A f)(k:Frm Z w w')(hE:∀g cs t,(t=110∨t=108∨t=77∨t=2)→IsC w g cs t→¬Z g):SpV w' A f:=
 ⟨h.nds.frm k (fun g cs hg=>hE g cs _ (.inl rfl) hg) (hE _ _ _ (.inr (.inl rfl)) h.nds.arr),h.ln,h.rts.frm k (hE _ _ _ (.inr (.inr (.inl rfl))) h.rts),h.rs,h.com.frm k fun g cs hg=>hE g cs _ (.inr (.inr (.inr rfl))) hg⟩
theorem SpV.below{A:SA}(h:SpV w A f)(k:Bl w w'):SpV w' A f:=h.frm (Frm.of_below (S:=fun _=>False) k) fun _ _ _ _ _=>id
theorem Sp.below{A:SA}(h:Sp w S A f)(k:Bl w w'):Sp w' S A f:=⟨h.box.of (k.block _ h.box.lt),h.v.below k⟩
theorem Sp.cells{A:SA}(h:Sp w S A f):w.cell? ⟨S,0,none⟩=some (.int .i64 f.cur.length)∧w.cell? ⟨S,1,none⟩=some (.slice (some ⟨A.ga,0,none⟩) A.ns.length (A.ns.length+A.nj.length))∧w.cell? ⟨S,2,none⟩=some (.slice (some ⟨A.gr,0,none⟩) f.roots.length (f.roots.length+A.rj.length))∧w.cell? ⟨S,3,none⟩=some (.int .i64 f.next)∧w.cell? ⟨S,4,none⟩=some (.int .i64 f.gen)∧w.cell? ⟨S,5,none⟩=some A.cv∧w.cell? ⟨S,6,none⟩=some A.tv:=by
 refine⟨?_,?_,?_,?_,?_,?_,?_⟩<;>rw[h.box.cell]<;>rfl
theorem SpV.root{A:SA}(h:SpV w A f){t:Nat}(ht:t<f.roots.length):w.cell? ⟨A.gr,t*2,none⟩=some (.int .i64 (f.roots.getD t (0,0)).1)∧w.cell? ⟨A.gr,t*2+1,none⟩=some (.int .i64 (f.roots.getD t (0,0)).2):=by
 have hx:∀j,j<2→w.cell? ⟨A.gr,t*2+j,none⟩=(aT (f.roots.getD t (0,0)))[j]?:=fun j hj=>by
  rw[h.rts.cell];have:=yT.at (f.roots++A.rj) (i:=t) (j:=j) (by simp;omega) hj;have e2:(f.roots++A.rj).getD t yT.z=f.roots.getD t (0,0):=by rw[cX,if_pos ht];rfl
  rw[e2]at this;exact this
 exact⟨hx 0 (by omega),hx 1 (by omega)⟩
structure CuI(f:fZ)(w:World)(B gc:Nat)(cj:List Int)(P:List Nat)(c':List Int)(w':World):Prop where
 j:∃e',J f (rc f.roots) c' e' P
 c:IsC w' gc (y64.row (c'++cj)) 2
 frm:Below B w w'
theorem fS(hI:IC f)(hK:∀x,cu f x≤1000000)(hE:∀b d,f.nodes b=some d→d.2.length≤10)(w:World)(S:Nat)(A:SA)(h:Sp w S A f)(ju:f.roots.length≤100):
  Calls Tryz.prog 33 #[.pointer (some ⟨S,0,none⟩)] w fun r w'=>∃u,r=.returned u∧y64.Own w.heap.size w' u f.cur∧Bl w w':=by
 obtain⟨ht,hh⟩:=hI.ht;obtain⟨s0,s1,s2,_⟩:=h.cells;have h8:=hI.n8;have h5:=hI.n512;have HC:=aA (aIY hI hh (K:=K0 f) fun b d hd=>aKH b d hd);have qk:=J.start f;unfold aMB at HC;go_enter Tryz.func33,Tryz.ntmps33;go_wp2_with fail;refine(pN f.cur.length h5 w).mono ?_;rintro r w1 ⟨u,rfl,⟨ag,cj,rfl,fi,lk⟩,ao⟩;obtain⟨gc,rfl⟩:∃g,ag=some g:=by
  cases ag with
  | none=>have:=(fi.nil rfl).1;have:=congrArg List.length this;rw[List.length_replicate,List.length_nil]at this;omega
  | some g=>exact⟨g,rfl⟩
 have xl:IsC w1 gc (y64.row (List.replicate f.cur.length 0++cj)) 2:=fi.arr gc rfl;have bp:=lk gc rfl;have lq:=fi.small;simp only[adr,Option.map_some,List.length_replicate]at lq ⊢;have Pz:=h.box.lt;have HZ:Hid (List.replicate f.cur.length (0:Int)=List.replicate f.cur.length 0):=rfl;generalize List.replicate f.cur.length (0:Int)=zs at *;have hN:=h.v.nds;have HN:=aA hN;have HR:=aA fun(w':World) (hb:Bl w w')=>(h.below hb).v;have HB:=aA fun(w':World) (hb:Bl w w')=>(h.below hb).cells;clear fi lk h8;go_wp2;go_loopw [4,5] (fun i _ wr=>∃j:Nat,j≤f.roots.length∧i=.int .i64 j∧CuI f w w.heap.size gc cj (((f.roots.map fun r=>r.2.toNat)).drop j) (((f.roots.map fun r=>r.2.toNat).take j).foldl (fun c r=>vis (K0 f) (ht r) c r) zs) wr) (fun i _ _=>f.roots.length -(intOf i).toNat)
 case atStart=>exact⟨0,by omega,rfl,⟨_,by simpa using qk⟩,by simpa using xl,ao⟩
 case round=>
  obtain⟨j,hj,rfl,⟨⟨e1,ot⟩,en,iN⟩⟩:=hrel;obtain⟨t0,t1,t2,_⟩:=HB.out wr iN;have yv:=(HR.out wr iN).nds;by_cases ai:j<f.roots.length
  ·obtain⟨r0,r1⟩:=(HR.out wr iN).root ai
   have dq:(j:Int) <(f.roots.length:Int):=by omega
   obtain⟨k,pd⟩:=eZ (aB f j);have Ea:=aO ai;have mw:(f.roots.getD j (0,0)).2=(k:Int):=by rw[←pd];unfold aB;have:=(hI.rb _ Ea).1;omega
   rw[mw]at r1;obtain⟨dk,Fu⟩:=hI.root_live Ea;rw[mw]at Fu;simp only[Int.toNat_natCast]at Fu;have tq:=hI.lt Fu;have xr:(f.roots.map fun r=>r.2.toNat)[j]?=some k:=by
    rw[List.getElem?_map,gE ai];rw[←pd];unfold aB;rw[gD,gE ai];rfl
   have Gr:(f.roots.map fun r=>r.2.toNat).drop j=k ::(f.roots.map fun r=>r.2.toNat).drop (j+1):=by
    obtain⟨hx,hy⟩:=List.getElem?_eq_some_iff.1 xr;rw[List.drop_eq_getElem_cons hx,hy]
   have GL:(f.roots.map fun r=>r.2.toNat).take (j+1)=(f.roots.map fun r=>r.2.toNat).take j++[k]:=by
    rw[List.take_add_one,xr];rfl
   rw[Gr]at ot;have HV:Hid (((f.roots.map fun r=>r.2.toNat).take (j+1)).foldl (fun c r=>vis (K0 f) (ht r) c r) zs=vis (K0 f) (ht k) (((f.roots.map fun r=>r.2.toNat).take j).foldl (fun c r=>vis (K0 f) (ht r) c r) zs) k):=by
    show _=_
    rw[GL,List.foldl_append];rfl
   have kz:=ot.len;have BJ:=ot.le hI k;have VR:=hK k;generalize ((f.roots.map fun r=>r.2.toNat).take j).foldl (fun c r=>vis (K0 f) (ht r) c r) zs=c1 at *;have mx:k<c1.length:=by omega
   obtain⟨x,hx⟩:=eZ (c1.getD k 0);have y0:=jE en mx;have z0:=en.frozen k;have y1:=oN en mx (x+1);have Kq:(k:Int) <(f.cur.length:Int):=by omega
   rw[hx]at BJ y0;have Na:IntKind.i64.wrap (x+1)=x+1:=IntWalk.i64_in _ ⟨by omega,by omega⟩;have HI:Hid (gY c1 k=c1.set k (x+1)):=by show _=_;unfold gY;rw[hx]
   obtain⟨w2,bw⟩:=eZ (wr.setCell ⟨gc,k,none⟩ (.int .i64 (x+1)));rw[bw]at y1;have du:Bl w w2:=iN.trans (by rw[←bw];exact(bQ _ wr).setCell (p:=⟨gc,k,none⟩) bp _);have Jo:k <(c1.set k (x+1)).length:=by simpa using mx
   have y2:=jE y1 Jo;have e5:(c1.set k (x+1)).getD k 0=x+1:=by rw[eM,if_pos ⟨rfl,mx⟩]
   rw[e5]at y2;have sc:=(HR.out w2 du).nds;obtain⟨v0,v1,v2,_⟩:=HB.out w2 du;have ah:(c1.set k (x+1)).length=f.cur.length:=by rw[List.length_set];omega
   by_cases h0:x=0
   ·have ow:=ot.first hI Fu (hx.trans h0)
    have hv:vis (K0 f) (ht k) c1 k=mB (K0 f) (ht k) k (gY c1 k):=by
     unfold vis;rw[if_pos (by rw[HI.out,e5,h0];rfl)]
    rw[hv]at HV;rw[HI.out]at HV ow;have xu:=aBA hI hh hK hE A.ga A.ns A.nj (ht k) k dk gc cj _ _ _ w2 rfl Fu sc y1 ow;rw[ah]at xu;have yl:((x+1:Int) == 1)=true:=by rw[h0];rfl
    have Ow:Hid (Calls Tryz.prog 54 #[.slice (some ⟨A.ga,0,none⟩) A.ns.length (A.ns.length+A.nj.length),.int .i64 k,.slice (some ⟨gc,0,none⟩) f.cur.length (f.cur.length+cj.length)] w2 fun r w'=>r=.returned (.tuple #[])∧CuI f w w.heap.size gc cj (((f.roots.map fun r=>r.2.toNat)).drop (j+1)) (((f.roots.map fun r=>r.2.toNat).take (j+1)).foldl (fun c r=>vis (K0 f) (ht r) c r) zs) w'):=by
     refine xu.mono ?_;rintro r w3 ⟨rfl,k1,k2,k3⟩;rw[HV.out];exact⟨rfl,k1,k2,du.trans (k3.below du.size fun k e=>by rw[e];exact bp)⟩
    clear ot ow y1 e5 BJ h0 HI sc hv xu HV ah hx pd mw Gr GL kz xr yv;go_wp2_with fail;refine Ow.out.mono ?_;rintro r w3 ⟨rfl,mh⟩;go_wp2;go_roundw
    case rel=>exact⟨j+1,by omega,by go_num,mh⟩
    case measure=>simp[intOf];omega
   ·have ow:=ot.more (tq) (by rw[hx];exact h0)
    have hv:vis (K0 f) (ht k) c1 k=gY c1 k:=by
     unfold vis;rw[if_neg (by rw[HI.out,e5];omega)]
    rw[hv]at HV;rw[HI.out]at HV ow;have yl:((x+1:Int) == 1)=false:=by rw[beq_eq_false_iff_ne];omega
    have HR:Hid (CuI f w w.heap.size gc cj (((f.roots.map fun r=>r.2.toNat)).drop (j+1)) (((f.roots.map fun r=>r.2.toNat).take (j+1)).foldl (fun c r=>vis (K0 f) (ht r) c r) zs) w2):=by
     show CuI _ _ _ _ _ _ _ _
     rw[HV.out];exact⟨⟨_,ow⟩,y1,du⟩
    clear ot ow y1 e5 BJ h0 HI sc hv HV ah hx pd mw Gr GL kz xr yv;go_wp2;go_roundw
    case rel=>exact⟨j+1,by omega,by go_num,HR.out⟩
    case measure=>simp[intOf];omega
  ·obtain rfl:j=f.roots.length:=by omega
   rw[List.take_of_length_le (by simp),HC.out]at en;have HX:Hid (y64.Own w.heap.size wr (.slice (some ⟨gc,0,none⟩) f.cur.length (f.cur.length+cj.length)) f.cur):=⟨some gc,cj,rfl,⟨fun g e=>(by cases e;exact en),fun e=>(by cases e),lq⟩,fun g e=>(by cases e;exact bp)⟩;clear en ot yv;go_wp2;go_ret;exact⟨_,rfl,HX.out,iN⟩
theorem mT{l:List Int}(h:y64.Sl w u l)(hl:0<l.length):∃g o c,u=.slice (some ⟨g,o,none⟩) l.length c∧g<w.heap.size∧(∃cs,IsC w g cs 2)∧∀(w':World) (i:Nat),(w'.heap[g]?=w.heap[g]?)→i<l.length→w'.cell? ⟨g,o+i,none⟩=some (.int .i64 (l.getD i 0)):=by
 rcases h with⟨rfl,rfl⟩ | ⟨g,o,cap,xs,rfl,h1,h2,h3⟩
 ·simp at hl
 ·obtain⟨g',o',c',e,hg,hc⟩:=(show y64.Sl w (.slice (some ⟨g,o*y64.n,none⟩) l.length cap) l from .inr ⟨g,o,cap,xs,rfl,h1,h2,h3⟩).at hl
  cases e
  refine⟨g,_,_,rfl,hg,⟨_,h1⟩,fun w' i he hi=>?_⟩;have hw:∀k,w'.cell? ⟨g,k,none⟩=w.cell? ⟨g,k,none⟩:=fun k=>by simp[World.cell?,he]
  have:=hc i 0 hi (by decide)
  have e:o*y64.n+i*y64.n+0=o*y64.n+i:=by show o*1+i*1+0=o*1+i;omega
  rw[e]at this;rw[hw];exact this
theorem aBS(h:∀x,x<b→frB f gh x=false)(hb:frB f gh b=true)(hl:b<f.cur.length):mA f gh=(b:Int):=by
 unfold mA;have:(List.range f.cur.length).find? (frB f gh)=some b:=by
  rw[List.find?_range_eq_some];exact⟨hb,by simpa using hl,fun x hx=>by rw[h x hx];rfl⟩
 rw[this]
theorem aBR(h:∀x,x<f.cur.length→frB f gh x=false):mA f gh=-1:=by
 unfold mA;have:(List.range f.cur.length).find? (frB f gh)=none:=by
  rw[List.find?_eq_none];intro x hx;rw[h x (List.mem_range.1 hx)];simp
 rw[this]
theorem mN(hI:IC f)(hK:∀x,cu f x≤1000000)(hE:∀b d,f.nodes b=some d→d.2.length≤10)(w:World)(S:Nat)(A:SA)(h:Sp w S A f)(ju:f.roots.length≤100)(gh:Int):
  Calls Tryz.prog 88 #[.pointer (some ⟨S,0,none⟩),.int .i64 gh] w fun r w'=>r=.returned (.int .i64 (mA f gh))∧Bl w w':=by
 have h8:=hI.n8;have h5:=hI.n512;go_enter Tryz.func88,Tryz.ntmps88;go_wp2_with fail;refine(fS hI hK hE w S A h ju).mono ?_;rintro r w1 ⟨u,rfl,hu,ao⟩;obtain⟨gc,oc,cc,rfl,bp,_,aa⟩:=mT hu.sl (by omega);have h1:=h.below ao;obtain⟨s0,_,_,_,_,s5,_⟩:=h1.cells;obtain⟨gm,om,cm,sf,AI,_,xj⟩:=mT h1.v.com (by rw[hI.len];omega);rw[sf]at s5;have HL:Hid (f.com.length=f.cur.length):=hI.len;clear sf hu;go_wp2;go_loopw [6] (fun i wr=>∃k:Nat,2≤k∧k≤f.cur.length∧i=.int .i64 k∧Is2 (.bool false) (.bool false) wr w1∧Hid (∀x,x<k→frB f gh x=false)) (fun i _=>f.cur.length -(intOf i).toNat)
 case atStart=>exact⟨2,by omega,by omega,rfl,⟨rfl,rfl⟩,fun x hx=>by unfold frB;rw[decide_eq_false (by omega)];simp⟩
 case round=>
  obtain⟨k,AM,tq,rfl,⟨_,rfl⟩,ay⟩:=hrel;by_cases ai:k<f.cur.length
  ·have x0:=aa wr k rfl ai
   have x1:=xj wr k rfl (by rw[HL.out];exact ai);have lm:(k:Int) <(f.cur.length:Int):=by omega
   have EV:(k:Int) <(f.com.length:Int):=by rw[HL.out];omega
   have HF:Hid (frB f gh k=(decide (2≤k) && (f.cur.getD k 0 == 0) && (f.com.getD k 0 == 0) && !((k:Int) == gh))):=rfl;rw[decide_eq_true AM]at HF;generalize f.cur.getD k 0=x at *;generalize f.com.getD k 0=y at *;have HN:Hid (frB f gh k=false→∀x,x<k+1→frB f gh x=false):=fun q z hz=>by
    by_cases e:z=k
    ·rw[e];exact q
    ·exact ay.out z (by omega)
   clear aa xj;cases ex:(x == 0)with
   | false=>
    rw[ex]at HF;go_wp2;go_roundw
    case rel=>exact⟨k+1,by omega,by omega,by go_num,⟨rfl,rfl⟩,HN.out (by rw[HF.out];rfl)⟩
    case measure=>simp[intOf];omega
   | true=>
    cases ey:(y == 0)with
    | false=>
     rw[ex,ey]at HF;go_wp2;go_roundw
     case rel=>exact⟨k+1,by omega,by omega,by go_num,⟨rfl,rfl⟩,HN.out (by rw[HF.out];rfl)⟩
     case measure=>simp[intOf];omega
    | true=>
     cases eh:((k:Int) == gh)with
     | true=>
      rw[ex,ey,eh]at HF;go_wp2;go_roundw
      case rel=>exact⟨k+1,by omega,by omega,by go_num,⟨rfl,rfl⟩,HN.out (by rw[HF.out];rfl)⟩
      case measure=>simp[intOf];omega
     | false=>
      rw[ex,ey,eh]at HF;have HT:=aA (aBS ay.out (by rw[HF.out];rfl) ai);go_wp2;go_ret;exact⟨by rw[HT.out];rfl,ao⟩
  ·obtain rfl:k=f.cur.length:=by omega
   have HT:=aA (aBR ay.out);clear aa xj;go_wp2;go_ret;exact⟨by rw[HT.out];rfl,ao⟩
def set2(w:World)(g q:Nat)(x:NV):World:=(w.setCell ⟨g,q*2,none⟩ (.int .i64 x.1)).setCell ⟨g,q*2+1,none⟩ (.slice x.2.1 x.2.2.1 x.2.2.2)
theorem eF(w:World)(g q:Nat)(x:NV):Frm (fun k=>k=g) w (set2 w g q x):=(Frm.set (S:=fun k=>k=g) w (p:=⟨g,q*2,none⟩) rfl _).trans (Frm.set (S:=fun k=>k=g) _ (p:=⟨g,q*2+1,none⟩) rfl _)
theorem aLU(l:List NV)(q:Nat)(x:NV)(h:q<l.length):((yN.row l).setIfInBounds (q*2) (.int .i64 x.1)).setIfInBounds (q*2+1) (.slice x.2.1 x.2.2.1 x.2.2.2)=yN.row (l.set q x):=by
 unfold Ely.row;rw[List.setIfInBounds_toArray,List.setIfInBounds_toArray];congr 1;induction l generalizing q with
 | nil=>simp at h
 | cons a l ih=>
  cases q with
  | zero=>rfl
  | succ q=>
   simp only[List.flatMap_cons,List.set_cons_succ];have e:yN.cell a=[.int .i64 a.1,.slice a.2.1 a.2.2.1 a.2.2.2]:=rfl;rw[e];have e1:(q+1)*2=q*2+1+1:=by omega
   rw[e1];show [_,_]++((l.flatMap yN.cell).set (q*2) _).set (q*2+1) _=_
   rw[ih q (by simpa using h)]
theorem iZ.set2(h:iZ w ga ns nj nodes)(hq:q<ns.length)(hx:NdR w x d):iZ (Go.Proofs.YtaahkgkdpnnhhaaGreat.set2 w ga q x) ga (ns.set q x) nj (upd nodes q (some d)):=by
 have hF:=eF w ga q x;have hS:∀g cs,IsC w g cs 110→¬g=ga:=fun g cs hg=>hg.type_ne h.arr (by decide);refine⟨?_,fun b d' hd=>?_,by simpa using h.small⟩
 ·have:=(h.arr.set (q*2) (.int .i64 x.1)).set (q*2+1) (.slice x.2.1 x.2.2.1 x.2.2.2)
  rw[aLU _ _ _ (by simp;omega),List.set_append_left _ _ hq]at this;exact this
 ·rw[List.length_set,bA _ _ _ _ _ hq]
  by_cases e:b=q
  ·rw[e,aD]at hd
   cases hd
   rw[if_pos e];exact⟨by rw[e];exact hq,hx.frm hF hS⟩
  ·rw[aC _ _ e]at hd
   rw[if_neg e];exact⟨(h.nd b d' hd).1,(h.nd b d' hd).2.frm hF hS⟩
def SA.setN(A:SA)(q:Nat)(x:NV):SA:={A with ns:=A.ns.set q x}
theorem Sp.set2{A:SA}(h:Sp w S A f)(hq:q<f.cur.length)(hx:NdR w x d):Sp (Go.Proofs.YtaahkgkdpnnhhaaGreat.set2 w A.ga q x) S (A.setN q x) (setN f q d):=by
 have hF:=eF w A.ga q x;have hg:=h.v.nds.arr;refine⟨?_,h.v.nds.set2 (by rw[h.v.ln];exact hq) hx,by simp[SA.setN,h.v.ln,Fo.setN],h.v.rts.frm hF (h.v.rts.type_ne hg (by decide)),h.v.rs,h.v.com.frm hF fun g cs k=>k.type_ne hg (by decide)⟩;have:=h.box.frm hF (h.box.type_ne hg (by decide));have e:aK (A.setN q x) (Fo.setN f q d)=aK A f:=by simp[aK,SA.setN,Fo.setN]
 rw[e];exact this
theorem Sp.sub{A:SA}{g:fZ}(h:Sp w S A f)(hn:∀b d,g.nodes b=some d→f.nodes b=some d)(hl:g.cur.length=f.cur.length)(hr:g.roots=f.roots)(h1:g.next=f.next)(h2:g.gen=f.gen)(h3:g.com=f.com):Sp w S A g:=by
 refine⟨?_,h.v.nds.sub hn,by rw[hl];exact h.v.ln,by rw[hr];exact h.v.rts,by rw[hr];exact h.v.rs,by rw[h3];exact h.v.com⟩;have e:aK A g=aK A f:=by unfold aK;rw[hl,hr,h1,h2]
 rw[e];exact h.box
theorem jG(w:World)(g q:Nat)(v0 v1:Value)(h:b≠g∨(o≠q*2∧o≠q*2+1)):((w.setCell ⟨g,q*2,none⟩ v0).setCell ⟨g,q*2+1,none⟩ v1).drew.cell? ⟨b,o,none⟩=w.cell? ⟨b,o,none⟩:=by
 show((w.setCell ⟨g,q*2,none⟩ v0).setCell ⟨g,q*2+1,none⟩ v1).cell? ⟨b,o,none⟩=_
 rw[World.cell?_setCell_other,World.cell?_setCell_other]
 ·intro e;simp only[Addr.mk.injEq]at e;omega
 ·intro e;simp only[Addr.mk.injEq]at e;omega
theorem Sp.drew{A:SA}(h:Sp w S A f):Sp w.drew S A f:=h.below (bQ _ w).drew
theorem Sp.wr{A:SA}(h:Sp w S A f)(hq:q<f.cur.length):∃k0 k1,w.cell? ⟨A.ga,q*2,none⟩=some k0∧w.cell? ⟨A.ga,q*2+1,none⟩=some k1∧w.frozen? ⟨A.ga,q*2,none⟩=false∧w.frozen? ⟨A.ga,q*2+1,none⟩=false∧(q:Int) <(A.ns.length:Int):=by
 have hl:=h.v.ln;have hs:(yN.row (A.ns++A.nj)).size=(A.ns++A.nj).length*2:=yN.size _;rw[lP]at hs;refine⟨(yN.row (A.ns++A.nj))[q*2]'(by omega),(yN.row (A.ns++A.nj))[q*2+1]'(by omega),?_,?_,h.v.nds.arr.frozen _,h.v.nds.arr.frozen _,by omega⟩
 ·rw[h.v.nds.arr.cell,Array.getElem?_eq_getElem]
 ·rw[h.v.nds.arr.cell,Array.getElem?_eq_getElem]
structure ZhP(w:World)(S:Nat)(A:SA)(f:fZ)(p:Nat)(d:Nd)(r:Ending)(w':World):Prop where
 own:own f p→r=.returned (.int .i64 p)∧Bl w w'
 no:¬Fo.own f p→aF f=0→r=.returned (.int .i64 (-1))∧Bl w w'
 yes:¬Fo.own f p→aF f≠0→r=.returned (.int .i64 (aF f))∧Sp w' S (A.setN (aF f) (A.ns.getD p nv0)) (setN f (aF f) d)∧Frm (fun k=>k=A.ga) w w'
theorem nQ(hI:IC f)(hE:∀b d,f.nodes b=some d→d.2.length≤10)(w:World)(S:Nat)(A:SA)(h:Sp w S A f)(ju:f.roots.length≤16)(p:Nat)(d:Nd)(hd:f.nodes p=some d):
  Calls Tryz.prog 87 #[.pointer (some ⟨S,0,none⟩),.int .i64 p] w (ZhP w S A f p d):=by
 have hK:=hI.counts ju hE;have h8:=hI.n8;have qi:=hI.lt hd;obtain⟨_,s1,_,_,_,s5,_⟩:=h.cells;obtain⟨gm,om,cm,sf,AI,_,xj⟩:=mT h.v.com (by rw[hI.len];omega);rw[sf]at s5;have Bq:(p:Int) <(f.com.length:Int):=by rw[hI.len];omega
 have x0:=xj w p rfl (by rw[hI.len];exact qi);have HC:Hid (co f p=f.com.getD p 0):=rfl;have HU:Hid (cu f p=f.cur.getD p 0):=rfl;have Cw:=fS hI hK hE w S A h (by omega);have HT:=aA (mQ f);have GL:Hid (∀w',Bl w w'→Calls Tryz.prog 88 #[.pointer (some ⟨S,0,none⟩),.int .i64 (-1)] w' fun r w2=>r=.returned (.int .i64 (mA f (-1)))∧Bl w w2):=fun w' hb=>
  (mN hI hK hE w' S A (h.below hb) (by omega) (-1)).mono fun r w2 hw=>⟨hw.1,hb.trans (hw.2.mono hb.size)⟩
 clear xj sf;obtain⟨y,hy⟩:=eZ (f.com.getD p 0);rw[hy]at x0;have HO:Hid (Fo.own f p↔f.cur.getD p 0=1∧y=0):=by rw[←hy];exact Iff.rfl
 clear hy HC HU;obtain⟨x,hx⟩:=eZ (f.cur.getD p 0);have SN:Hid (Calls Tryz.prog 33 #[.pointer (some ⟨S,0,none⟩)] w fun r w'=>∃g o c,r=.returned (.slice (some ⟨g,o,none⟩) f.cur.length c)∧w'.cell? ⟨g,o+p,none⟩=some (.int .i64 x)∧Bl w w'):=by
  refine Cw.mono ?_;rintro r w1 ⟨u,rfl,hu,ao⟩;obtain⟨gc,oc,cc,rfl,bp,_,aa⟩:=mT hu.sl (by omega);have:=aa w1 p rfl qi;rw[hx]at this;exact⟨gc,oc,cc,rfl,this,ao⟩
 rw[hx]at HO;clear hx Cw;have YQ:(p:Int) <(f.cur.length:Int):=by omega
 have HS:=aA fun(w':World) (hb:Bl w w')=>h.below hb;go_enter Tryz.func87,Tryz.ntmps87;by_cases ho:x=1∧y=0
 ·have Nu:Hid (Fo.own f p):=HO.out.2 ho
  obtain⟨rfl,rfl⟩:=ho;go_wp2_with fail;refine SN.out.mono ?_;rintro r w1 ⟨gc,oc,cc,rfl,z0,ao⟩;go_wp2;go_ret;exact⟨fun _=>⟨rfl,ao⟩,fun q=>absurd Nu.out q,fun q=>absurd Nu.out q⟩
 ·have HN:Hid (¬Fo.own f p):=fun q=>ho (HO.out.1 q)
  by_cases ey:y=0
  case' pos=>
   have ex:(x == 1)=false:=by rw[beq_eq_false_iff_ne];exact fun q=>ho ⟨q,ey⟩
   clear HO;subst ey;clear ho;go_wp2_with fail;refine SN.out.mono ?_;rintro r w1 ⟨gc,oc,cc,rfl,z0,ao⟩;go_wp2_with fail
  case' neg=>
   have ey':(y == 0)=false:=by simpa using ey
   have ao:Bl w w:=bQ _ _;clear HO ho ey;obtain⟨w1,be⟩:∃w1,w1=w:=⟨_,rfl⟩;go_wp2_with fail
  all_goals (
   refine(GL.out _ ao).mono ?_;rintro r w2 ⟨rfl,ba⟩;rw[HT.out];by_cases hl:aF f=0
   ·rw[if_pos hl]
    have HL:=aA hl;clear hl;go_wp2;go_ret;exact⟨fun q=>absurd q HN.out,fun _ _=>⟨rfl,ba⟩,fun _ q=>absurd HL.out q⟩
   ·rw[if_neg hl]
    obtain⟨_,gp,ak,_⟩:=aR hl;have ax:=HS.out w2 ba;obtain⟨_,C8,_⟩:=ax.cells;obtain⟨a,c,dw,hb,AV,c0,c1,_⟩:=ax.v.nds.at hd;obtain⟨k0,k1,gi,gx,jl,fz,Wc⟩:=ax.wr gp;have L1:=(ax.v.nds.nd p d hd).2;have cq:=ax.set2 gp L1;have av:p≠aF f:=fun e=>by have:=hI.cu_pos hd;rw[e]at this;omega
    have bu:=(Frm.of_below (S:=fun k=>k=A.ga) ba).trans (eF w2 A.ga (aF f) (A.ns.getD p nv0));rw[AV]at cq bu;have Wt:(p:Int) <(A.ns.length:Int):=by rw[h.v.ln];omega
    have HR:Hid (∀w3,w3=(set2 w2 A.ga (aF f) (d.1,a,d.2.length,c)).drew→ZhP w S A f p d (.returned (.int .i64 (aF f))) w3):=fun w3 e=>by
     rw[e];exact⟨fun q=>absurd q HN.out,fun _ q=>absurd q hl,fun _ _=>⟨rfl,by rw[AV];exact cq.drew,bu.trans (Frm.drew _ _)⟩⟩
    obtain⟨q,hq⟩:=eZ (aF f);rw[hq]at jl fz gi gx av Wc HR;rw[hq];clear cq bu L1 ax AV hl ak gp hq;have wd:S≠A.ga:=h.box.type_ne h.v.nds.arr (by decide);have Oy:Hid (∀v0 v1,((w2.setCell ⟨A.ga,q*2,none⟩ v0).setCell ⟨A.ga,q*2+1,none⟩ v1).drew.cell? ⟨S,1,none⟩=some (.slice (some ⟨A.ga,0,none⟩) A.ns.length (A.ns.length+A.nj.length))∧((w2.setCell ⟨A.ga,q*2,none⟩ v0).setCell ⟨A.ga,q*2+1,none⟩ v1).drew.cell? ⟨A.ga,p*2,none⟩=some (.int .i64 d.1)∧((w2.setCell ⟨A.ga,q*2,none⟩ v0).setCell ⟨A.ga,q*2+1,none⟩ v1).drew.cell? ⟨A.ga,p*2+1,none⟩=some (.slice a d.2.length c)):=fun v0 v1=>by
     rw[jG _ _ _ _ _ (.inl wd),jG _ _ _ _ _ (.inr ⟨by omega,by omega⟩),jG _ _ _ _ _ (.inr ⟨by omega,by omega⟩)];exact⟨C8,c0,c1⟩
    go_wp2
    go_region_held3 (fun W=>W.cell? ⟨S,1,none⟩=some (.slice (some ⟨A.ga,0,none⟩) A.ns.length (A.ns.length+A.nj.length))∧W.cell? ⟨A.ga,p*2,none⟩=some (.int .i64 d.1)∧W.cell? ⟨A.ga,p*2+1,none⟩=some (.slice a d.2.length c)) (first | exact Oy.out _ _ | go_keep) ((fail))
    go_wp2
    go_ret
    exact HR.out _ rfl)
theorem Ely.Sl.dropN{Y:Ely α}{l:List α}(h:Y.Sl w (.slice (some ⟨g,o,none⟩) len cap) l)(k:Nat)(hk:k≤l.length)(c:Nat):Y.Sl w (.slice (some ⟨g,o+k*Y.n,none⟩) (l.length-k) c) (l.drop k):=by
 rcases h with⟨e,_⟩ | ⟨g',o',cap',xs,e,h1,h2,h3⟩
 ·cases e
 ·cases e
  refine .inr ⟨g,o'+k,c,xs,by rw[Nat.add_mul,List.length_drop],h1,by rw[List.length_drop];omega,?_⟩;rw[List.length_drop,←List.drop_drop];conv=>rhs;rw[←h3];rw[List.drop_take]
theorem Ely.Sl.takeN{Y:Ely α}{l:List α}(h:Y.Sl w (.slice (some ⟨g,o,none⟩) len cap) l)(k:Nat)(hk:k≤l.length)(c:Nat):Y.Sl w (.slice (some ⟨g,o,none⟩) k c) (l.take k):=by
 rcases h with⟨e,_⟩ | ⟨g',o',cap',xs,e,h1,h2,h3⟩
 ·cases e
 ·cases e
  refine .inr ⟨g,o',c,xs,by rw[List.length_take,Nat.min_eq_left hk],h1,by rw[List.length_take];omega,?_⟩;rw[List.length_take,Nat.min_eq_left hk];conv=>rhs;rw[←h3];rw[List.take_take,Nat.min_eq_left hk]
theorem Ely.Own.nv{l:List E3}(h:yE.Own b w u l)(k:Int):∃x:NV,u=.slice x.2.1 x.2.2.1 x.2.2.2∧x.1=k∧NdR w x (k,l):=by
 obtain⟨a,junk,rfl,h1,h2⟩:=h;exact⟨(k,adr a,l.length,l.length+junk.length),rfl,rfl,rfl,h1.sl,Nat.le_add_right _ _⟩
theorem bU{W:World}{x v0 v1:Value}{B:Nat}(av:B≠g)(h:W.cell? ⟨B,o,none⟩=some x):((W.setCell ⟨g,q*2,none⟩ v0).setCell ⟨g,q*2+1,none⟩ v1).drew.cell? ⟨B,o,none⟩=some x:=by
 rw[jG _ _ _ _ _ (.inl av)];exact h
structure SaS(A A':SA):Prop where
 ga:A'.ga=A.ga
 nj:A'.nj=A.nj
 gr:A'.gr=A.gr
 rj:A'.rj=A.rj
 cv:A'.cv=A.cv
 tv:A'.tv=A.tv
theorem SaS.refl(A:SA):SaS A A:=⟨rfl,rfl,rfl,rfl,rfl,rfl⟩
theorem SaS.trans{A B C:SA}(h:SaS A B)(k:SaS B C):SaS A C:=⟨k.ga.trans h.ga,k.nj.trans h.nj,k.gr.trans h.gr,k.rj.trans h.rj,k.cv.trans h.cv,k.tv.trans h.tv⟩
theorem SaS.setN(A:SA)(q:Nat)(x:NV):SaS A (A.setN q x):=⟨rfl,rfl,rfl,rfl,rfl,rfl⟩
structure Zt(w:World)(S:Nat)(A:SA)(g:fZ)(w':World):Prop where
 ex:∃A',Sp w' S A' g∧SaS A A'
 frm:Frm (fun k=>k=A.ga) w w'
theorem sE(w:World)(S:Nat)(A:SA)(h:Sp w S A f)(b q:Nat)(k:Int)(es:List E3)(hd:f.nodes b=some (k,es))(h5:es.length=5)(hb:b<f.cur.length)(hq:q<f.cur.length)(mi:b≠q):
  Calls Tryz.prog 89 #[.pointer (some ⟨S,0,none⟩),.int .i64 b,.int .i64 q] w fun r w'=>r=.returned (.tuple #[])∧Zt w S A (setN (setN f q (k,es.drop 3)) b (k,es.take 3)) w':=by
 have so:=gS;obtain⟨_,s1,_⟩:=h.cells;obtain⟨a,c,dw,d5,AV,c0,c1,ol⟩:=h.v.nds.at hd;obtain⟨g,o,cp',he,hg,_⟩:=dW dw (by simp only;omega);cases he;have D5:(b:Int) <(A.ns.length:Int):=by omega
 have T2:(q:Int) <(A.ns.length:Int):=by rw[h.v.ln];omega
 simp only at c0 c1 ol dw
 obtain⟨B,hB⟩:=eZ (w.heap.size);obtain⟨w0,m0⟩:=eZ (w.alloc (.cells #[.int .i64 k,.slice (some ⟨g,o,none⟩) 5 c] 108));rw[h5]at ol;have Kj:¬c=3:=by omega
 have JB:(3:Int)≤(c:Int):=by omega
 have EO:yE.Sl w (.slice (some ⟨g,o+9,none⟩) 2 (c-3)) (es.drop 3):=by have:=dw.dropN 3 (by omega) (c-3);rw[h5]at this;exact this
 have T8:yE.Sl w (.slice (some ⟨g,o,none⟩) 3 c) (es.take 3):=dw.takeN 3 (by omega) c;rw[h5]at c1;have c9:Bl w w0:=by rw[←m0];exact(bQ w.heap.size w).alloc (nR _) _
 have bo:=iNw m0 hB;have wd:S≠A.ga:=h.box.type_ne h.v.nds.arr (by decide);have zu:B≠A.ga:=by have:=h.v.nds.arr.lt;omega
 have kh:=h.below c9;obtain⟨_,t1,_⟩:=kh.cells;have b0:w0.cell? ⟨B,0,none⟩=some (.int .i64 k):=bo.c rfl;have b1:w0.cell? ⟨B,1,none⟩=some (.slice (some ⟨g,o,none⟩) 5 c):=bo.c rfl;have vo:Hid (Calls Tryz.prog 108 #[.slice (some ⟨g,o+9,none⟩) 2 (c-3),.slice none 0 0] w0.drew fun r w'=>∃x:NV,r=.returned (.slice x.2.1 x.2.2.1 x.2.2.2)∧x.1=k∧NdR w' x (k,es.drop 3)∧Bl w0 w'):=by
  refine(mM _ _ (es.drop 3) [] w0.drew (EO.below c9.drew) (.inl ⟨rfl,rfl⟩) (by simp;omega) (by simp)).mono ?_;rintro r w1 ⟨u,rfl,hu,ao⟩;rw[List.append_nil]at hu;obtain⟨x,rfl,h1,h2⟩:=hu.nv k;exact⟨x,rfl,h1,h2,(bQ w0.heap.size w0).drew.trans ao⟩
 have Ua:Hid (∀w2:World,Frm (fun k=>k=A.ga) w w2→Calls Tryz.prog 108 #[.slice (some ⟨g,o,none⟩) 3 c,.slice none 0 0] w2.drew fun r w'=>∃x:NV,r=.returned (.slice x.2.1 x.2.2.1 x.2.2.2)∧x.1=k∧NdR w' x (k,es.take 3)∧Bl w2 w'):=fun w2 hF=>by
  refine(mM _ _ (es.take 3) [] w2.drew (T8.frm (hF.trans (Frm.drew _ _)) fun g cs hg=>hg.type_ne h.v.nds.arr (by decide)) (.inl ⟨rfl,rfl⟩) (by simp;omega) (by simp)).mono ?_;rintro r w1 ⟨u,rfl,hu,ao⟩;rw[List.append_nil]at hu;obtain⟨x,rfl,h1,h2⟩:=hu.nv k;exact⟨x,rfl,h1,h2,(bQ w2.heap.size w2).drew.trans ao⟩
 have HS:=aA kh;have HB:=aA bo;obtain⟨f0,f1,WH,Kl,jl,fz,_⟩:=kh.wr hq;have HC:Hid (∀w1:World,Bl w0 w1→w1.cell? ⟨S,1,none⟩=some (.slice (some ⟨A.ga,0,none⟩) A.ns.length (A.ns.length+A.nj.length))∧w1.cell? ⟨B,0,none⟩=some (.int .i64 k)∧w1.cell? ⟨B,1,none⟩=some (.slice (some ⟨g,o,none⟩) 5 c)):=fun w1 hb=>by
  refine⟨(kh.below hb).cells.2.1,?_,?_⟩
  ·rw[(bo.of (hb.block _ bo.lt)).cell];rfl
  ·rw[(bo.of (hb.block _ bo.lt)).cell];rfl
 have HW:Hid (∀w1:World,Bl w0 w1→∃k0 k1,w1.cell? ⟨A.ga,q*2,none⟩=some k0∧w1.cell? ⟨A.ga,q*2+1,none⟩=some k1∧w1.frozen? ⟨A.ga,q*2,none⟩=false∧w1.frozen? ⟨A.ga,q*2+1,none⟩=false):=fun w1 hb=>by
  obtain⟨k0,k1,h1,h2,h3,h4,_⟩:=(kh.below hb).wr hq;exact⟨k0,k1,h1,h2,h3,h4⟩
 have H5:=aA h5;clear h5 EO T8 dw bo kh;go_enter Tryz.func89,Tryz.ntmps89;go_wp2;go_region_held3 (fun W=>W.cell? ⟨S,1,none⟩=some (.slice (some ⟨A.ga,0,none⟩) A.ns.length (A.ns.length+A.nj.length))∧W.cell? ⟨B,0,none⟩=some (.int .i64 k)∧W.cell? ⟨B,1,none⟩=some (.slice (some ⟨g,o,none⟩) 5 c)) (first | assumption | go_keep | exact⟨bU wd db,bU zu fx,bU zu vt⟩) ((go_at_call 108;refine vo.out.mono ?_;rintro r w1 ⟨x,rfl,zc,Ac,ao⟩;obtain⟨db,fx,vt⟩:=HC.out w1 ao;obtain⟨k0,k1,gi,gx,jl,fz⟩:=HW.out w1 ao));have ax:Sp (set2 w1 A.ga q x) S (A.setN q x) (setN f q (k,es.drop 3)):=(HS.out.below ao).set2 hq Ac;have bw:(w1.setCell ⟨A.ga,q*2,none⟩ (.int .i64 k)).setCell ⟨A.ga,q*2+1,none⟩ (.slice x.2.1 x.2.2.1 x.2.2.2)=set2 w1 A.ga q x:=by unfold set2;rw[zc]
 rw[bw];have du:Frm (fun k=>k=A.ga) w (set2 w1 A.ga q x):=((Frm.of_below c9).trans (Frm.of_below ao)).trans (eF w1 A.ga q x);have eu:IsC (set2 w1 A.ga q x) B #[.int .i64 k,.slice (some ⟨g,o,none⟩) 5 c] 108:=(HB.out.of (ao.block _ HB.out.lt)).frm (eF w1 A.ga q x) zu;generalize set2 w1 A.ga q x=w2 at *;obtain⟨_,t1,_⟩:=ax.cells;have b0:w2.cell? ⟨B,0,none⟩=some (.int .i64 k):=eu.c rfl;have b1:w2.cell? ⟨B,1,none⟩=some (.slice (some ⟨g,o,none⟩) 5 c):=eu.c rfl;have HA:Hid ((A.setN q x).ns.length=A.ns.length):=by simp[SA.setN,Hid]
 have t1':w2.cell? ⟨S,1,none⟩=some (.slice (some ⟨A.ga,0,none⟩) A.ns.length (A.ns.length+A.nj.length)):=by rw[HA.out]at t1;exact t1
 have CB:Hid (∀w1:World,Bl w2 w1→w1.cell? ⟨S,1,none⟩=some (.slice (some ⟨A.ga,0,none⟩) A.ns.length (A.ns.length+A.nj.length))∧w1.cell? ⟨B,0,none⟩=some (.int .i64 k)∧w1.cell? ⟨B,1,none⟩=some (.slice (some ⟨g,o,none⟩) 5 c)):=fun w1 hb=>by
  refine⟨?_,?_,?_⟩
  ·have:=(ax.below hb).cells.2.1
   rw[HA.out]at this;exact this
  ·rw[(eu.of (hb.block _ eu.lt)).cell];rfl
  ·rw[(eu.of (hb.block _ eu.lt)).cell];rfl
 have DY:Hid (∀w1:World,Bl w2 w1→∃k0 k1,w1.cell? ⟨A.ga,b*2,none⟩=some k0∧w1.cell? ⟨A.ga,b*2+1,none⟩=some k1∧w1.frozen? ⟨A.ga,b*2,none⟩=false∧w1.frozen? ⟨A.ga,b*2+1,none⟩=false):=fun w1 xe=>by
  obtain⟨k0,k1,h1,h2,h3,h4,_⟩:=(ax.below xe).wr (q:=b) hb;exact⟨k0,k1,h1,h2,h3,h4⟩
 have pu:=aA ax;have sk:=aA du;have HJ:=Ua.out w2 du;have Ub:=aA HJ;clear db fx vt gi gx jl fz ax eu HJ t1 WH Kl bw du;go_wp2;go_region_held3 (fun W=>W.cell? ⟨S,1,none⟩=some (.slice (some ⟨A.ga,0,none⟩) A.ns.length (A.ns.length+A.nj.length))∧W.cell? ⟨B,0,none⟩=some (.int .i64 k)∧W.cell? ⟨B,1,none⟩=some (.slice (some ⟨g,o,none⟩) 5 c)) (first | assumption | go_keep | exact⟨bU wd db,bU zu fx,bU zu vt⟩) ((go_at_call 108;refine Ub.out.mono ?_;rintro r w3 ⟨y,rfl,DA,ze,ce⟩;obtain⟨db,fx,vt⟩:=CB.out w3 ce;obtain⟨k0,k1,gi,gx,jl,fz⟩:=DY.out w3 ce));have cn:(w3.setCell ⟨A.ga,b*2,none⟩ (.int .i64 k)).setCell ⟨A.ga,b*2+1,none⟩ (.slice y.2.1 y.2.2.1 y.2.2.2)=set2 w3 A.ga b y:=by unfold set2;rw[DA]
 rw[cn];have HR:Hid (Zt w S A (setN (setN f q (k,es.drop 3)) b (k,es.take 3)) (set2 w3 A.ga b y)):=
  ⟨⟨_,(pu.out.below ce).set2 (q:=b) hb ze,(SaS.setN A q x).trans (SaS.setN _ b y)⟩,(sk.out.trans (Frm.of_below ce)).trans (eF w3 A.ga b y)⟩
 clear cn db fx vt gi gx jl fz;go_wp2;exact⟨rfl,.tuple #[],by simp[results,Tryz.f89,go_sem],rfl,HR.out⟩
theorem aMP(W:World)(k v:ByteArray):(Instr.build 110 #[(0,.string k),(1,.string v)]).run Tryz.prog W=.ok (.agg #[.string k,.string v,.int .i64 0]) W:=by kernel_rfl
structure ZpP(w:World)(S:Nat)(A:SA)(r:Option fZ)(e:Ending)(w':World):Prop where
 no:r=none→e=.returned (.bool false)∧Frm (fun k=>k=A.ga) w w'
 yes:∀g,r=some g→e=.returned (.bool true)∧Zt w S A g w'
theorem Sp.store{w1:World}{A:SA}(h:Sp w S A f)(hb:Bl w w1)(hq:q<f.cur.length)(hx:NdR w1 x d):Zt w S A (Fo.setN f q d) (Go.Proofs.YtaahkgkdpnnhhaaGreat.set2 w1 A.ga q x):=
 ⟨⟨_,(h.below hb).set2 hq hx,SaS.setN A q x⟩,(Frm.of_below hb).trans (eF w1 A.ga q x)⟩
theorem dL{k:Int}(h:x.1=k):(w.setCell ⟨g,q*2,none⟩ (.int .i64 k)).setCell ⟨g,q*2+1,none⟩ (.slice x.2.1 x.2.2.1 x.2.2.2)=set2 w g q x:=by unfold set2;rw[h]
theorem Sp.swapped{A:SA}(h:Sp w S A f)(v:Value)(es:List E3)(i:Nat)(e:E3)(hv:yE.Sl w v es)(hi:i<es.length)(hl:es.length≤100)(k:Int)(hb:b<f.cur.length):
  Calls Tryz.prog 94 #[v,.int .i64 i,.agg #[.string e.1,.string e.2.1,.int .i64 e.2.2]] w.drew fun r w'=>∃x:NV,r=.returned (.slice x.2.1 x.2.2.1 x.2.2.2)∧x.1=k∧NdR w' x (k,es.set i e)∧Bl w w'∧w'.cell? ⟨S,1,none⟩=some (.slice (some ⟨A.ga,0,none⟩) A.ns.length (A.ns.length+A.nj.length))∧
   ∃k0 k1,w'.cell? ⟨A.ga,b*2,none⟩=some k0∧w'.cell? ⟨A.ga,b*2+1,none⟩=some k1∧w'.frozen? ⟨A.ga,b*2,none⟩=false∧w'.frozen? ⟨A.ga,b*2+1,none⟩=false:=by
 refine(eP v es i e w.drew (hv.below (bQ _ w).drew) hi hl).mono ?_;rintro r w1 ⟨u,rfl,hu,ao⟩;obtain⟨x,rfl,h1,h2⟩:=hu.nv k;have hB:Bl w w1:=(bQ _ w).drew.trans ao;obtain⟨k0,k1,y1,y2,y3,y4,_⟩:=(h.below hB).wr hb;exact⟨x,rfl,h1,h2,hB,(h.below hB).cells.2.1,k0,k1,y1,y2,y3,y4⟩
theorem Sp.inserted{A:SA}(h:Sp w S A f)(v:Value)(es:List E3)(i:Nat)(e:E3)(hv:yE.Sl w v es)(hi:i≤es.length)(hl:es.length≤100)(k:Int)(hb:b<f.cur.length):
  Calls Tryz.prog 109 #[v,.int .i64 i,.agg #[.string e.1,.string e.2.1,.int .i64 e.2.2]] w.drew fun r w'=>∃x:NV,r=.returned (.slice x.2.1 x.2.2.1 x.2.2.2)∧x.1=k∧NdR w' x (k,insE es i e)∧Bl w w'∧w'.cell? ⟨S,1,none⟩=some (.slice (some ⟨A.ga,0,none⟩) A.ns.length (A.ns.length+A.nj.length))∧
   ∃k0 k1,w'.cell? ⟨A.ga,b*2,none⟩=some k0∧w'.cell? ⟨A.ga,b*2+1,none⟩=some k1∧w'.frozen? ⟨A.ga,b*2,none⟩=false∧w'.frozen? ⟨A.ga,b*2+1,none⟩=false:=by
 refine(nP v es i e w.drew (hv.below (bQ _ w).drew) hi hl).mono ?_;rintro r w1 ⟨u,rfl,hu,ao⟩;obtain⟨x,rfl,h1,h2⟩:=hu.nv k;have hB:Bl w w1:=(bQ _ w).drew.trans ao;obtain⟨k0,k1,y1,y2,y3,y4,_⟩:=(h.below hB).wr hb;exact⟨x,rfl,h1,h2,hB,(h.below hB).cells.2.1,k0,k1,y1,y2,y3,y4⟩
theorem wT(w:World)(S:Nat)(A:SA)(h:Sp w S A f)(b:Nat)(es:List E3)(key val:ByteArray)(hd:f.nodes b=some (1,es))(hs:Srt es)(h0:∀i,i<es.length→(es.getD i e0).2.2=0)(h5:es.length≤10)(hb:b<f.cur.length):
  Calls Tryz.prog 90 #[.pointer (some ⟨S,0,none⟩),.int .i64 b,.string key,.string val] w fun e w'=>e=.returned (.bool true)∧Zt w S A (setN f b (1,putE es key val)) w':=by
 have so:=gS;have Fm:=aMP;obtain⟨_,s1,_⟩:=h.cells;obtain⟨a,c,dw,d5,AV,c0,c1,ol⟩:=h.v.nds.at hd;simp only at dw c0 c1;have bz:0<es.length→_:=fun h=>dW dw h;have D5:(b:Int) <(A.ns.length:Int):=by omega
 have wd:S≠A.ga:=h.box.type_ne h.v.nds.arr (by decide);have yq:=aA fun(i:Nat) (hi:i<es.length)=>h.swapped (.slice a es.length c) es i (key,val,0) dw hi (by omega) 1 hb;have qm:=aA fun(i:Nat) (hi:i≤es.length)=>h.inserted (.slice a es.length c) es i (key,val,0) dw hi (by omega) 1 hb;clear dw AV ol;go_enter Tryz.func90,Tryz.ntmps90;go_wp2;go_loopw [10,11] (fun u k wr=>∃j:Nat,j≤es.length∧k=.int .i64 j∧Is2 u (.int .i64 (qZ es key j)) wr w∧Hid (∀x,x<j→ky es x≠key)) (fun _ k _=>es.length -(intOf k).toNat)
 case atStart=>exact⟨0,by omega,rfl,⟨rfl,rfl⟩,fun x hx=>by omega⟩
 case round=>
  obtain⟨j,hj,rfl,⟨rfl,rfl⟩,ay⟩:=hrel;by_cases ai:j<es.length
  ·obtain⟨g,o,c',he,hg,aa⟩:=bz (by omega)
   cases he
   obtain⟨x0,x1,x2⟩:=aa wr j rfl ai;have dq:(j:Int) <(es.length:Int):=by omega
   have HK:Hid (ky es j=(es.getD j e0).1):=rfl;clear bz aa;generalize (es.getD j e0).1=x at *;by_cases he:x=key
   ·have HP:=aA (aHK (val:=val) hs h0 ai (HK.out.trans he))
    have hq:(x.toList == key.toList)=true:=by rw[he];exact beq_self_eq_true _
    clear he;have HC:=yq.out j ai;have LJ:=aA HC;clear HC yq qm;go_wp2;go_region_held3 (fun W=>W.cell? ⟨S,1,none⟩=some (.slice (some ⟨A.ga,0,none⟩) A.ns.length (A.ns.length+A.nj.length))) (first | assumption | go_keep | exact bU wd db) ((go_at_call 94;refine LJ.out.mono ?_;rintro r w1 ⟨y,rfl,zc,Ac,ao,db,k0,k1,gi,gx,jl,fz⟩));rw[dL zc];have HR:Hid (Zt wr S A (setN f b (1,putE es key val)) (set2 w1 A.ga b y)):=by rw[HP.out];exact h.store ao hb Ac
    go_wp2
    go_ret
    exact⟨rfl,HR.out⟩
   ·have hq:(x.toList == key.toList)=false:=by rw[beq_eq_false_iff_ne];exact fun e=>he (gR e)
    have HA:Hid (∀z,z<j+1→ky es z≠key):=fun z hz=>by
     by_cases e:z=j
     ·rw[e,HK.out];exact he
     ·exact ay.out z (by omega)
    have HS:Hid (qZ es key (j+1)=if kl (ky es j) key=true then j+1 else qZ es key j):=rfl;have HB:Hid (kl (ky es j) key=Op.bytesLess x.toList key.toList):=by show kl (ky es j) key=_;rw[HK.out];rfl
    clear he yq qm;cases hl:Op.bytesLess x.toList key.toList with
    | true=>
     rw[HB.out,if_pos hl]at HS;go_wp2;go_roundw
     case rel=>exact⟨j+1,by omega,by go_num,⟨by rw[HS.out];go_num,rfl⟩,HA.out⟩
     case measure=>simp[intOf];omega
    | false=>
     rw[HB.out,if_neg (by rw[hl];simp)]at HS;go_wp2;go_roundw
     case rel=>exact⟨j+1,by omega,by go_num,⟨by rw[HS.out],rfl⟩,HA.out⟩
     case measure=>simp[intOf];omega
  ·obtain rfl:j=es.length:=by omega
   have HP:=aA (aJW (val:=val) hs ay.out);have ph:qZ es key es.length≤es.length:=by rw[xS hs];exact kM _ _
   have LJ:=aA (qm.out _ ph);generalize qZ es key es.length=at' at *;clear yq qm bz;go_wp2;go_region_held3 (fun W=>W.cell? ⟨S,1,none⟩=some (.slice (some ⟨A.ga,0,none⟩) A.ns.length (A.ns.length+A.nj.length))) (first | assumption | go_keep | exact bU wd db) ((go_at_call 109;refine LJ.out.mono ?_;rintro r w1 ⟨x,rfl,zc,Ac,ao,db,k0,k1,gi,gx,jl,fz⟩));rw[dL zc];have HR:Hid (Zt wr S A (setN f b (1,putE es key val)) (set2 w1 A.ga b x)):=by rw[HP.out];exact h.store ao hb Ac
   go_wp2
   go_ret
   exact⟨rfl,HR.out⟩
