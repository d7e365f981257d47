import Derived.Test.YtaahkgkdpnnhhaaGreatSq1
set_option maxHeartbeats 9999999
set_option maxRecDepth 99999
set_option linter.all false
namespace Go.Proofs.YtaahkgkdpnnhhaaGreat
open Go.RowKit Fo
structure NdR(w:World)(x:NV)(d:Nd):Prop where
 k:x.1=d.1
 e:yE.Sl w (.slice x.2.1 x.2.2.1 x.2.2.2) d.2
 c:x.2.2.1≤x.2.2.2
abbrev nv0:NV:=(0,none,0,0)
structure iZ(w:World)(ga:Nat)(ns nj:List NV)(nodes:Nat→Option Nd):Prop where
 arr:IsC w ga (yN.row (ns++nj)) 108
 nd:∀b d,nodes b=some d→b<ns.length∧NdR w (ns.getD b nv0) d
 small:ns.length+nj.length≤maxLen
theorem NdR.frm{S:Nat→Prop}{w w':World}{x:NV}{d:Nd}(h:NdR w x d)(k:Frm S w w')(hS:∀g cs,IsC w g cs 110→¬S g):NdR w' x d:=⟨h.k,h.e.frm k hS,h.c⟩
theorem iZ.frm{S:Nat→Prop}{w w':World}{ga:Nat}{ns nj:List NV}{nodes:Nat→Option Nd}(h:iZ w ga ns nj nodes)(k:Frm S w w')(hS:∀g cs,IsC w g cs 110→¬S g)(hg:¬S ga):iZ w' ga ns nj nodes:=
 ⟨h.arr.frm k hg,fun b d hd=>⟨(h.nd b d hd).1,(h.nd b d hd).2.frm k hS⟩,h.small⟩
theorem iZ.below{w w':World}{ga:Nat}{ns nj:List NV}{nodes:Nat→Option Nd}(h:iZ w ga ns nj nodes)(k:Bl w w'):iZ w' ga ns nj nodes:=h.frm (Frm.of_below (S:=fun _=>False) k) (fun _ _ _=>id) id
theorem iZ.sub{w:World}{ga:Nat}{ns nj:List NV}{nodes nodes':Nat→Option Nd}(h:iZ w ga ns nj nodes)(hs:∀b d,nodes' b=some d→nodes b=some d):iZ w ga ns nj nodes':=⟨h.arr,fun b d hd=>h.nd b d (hs b d hd),h.small⟩
theorem iZ.at{w:World}{ga:Nat}{ns nj:List NV}{nodes:Nat→Option Nd}(h:iZ w ga ns nj nodes){b:Nat}{d:Nd}(hd:nodes b=some d):∃a c,yE.Sl w (.slice a d.2.length c) d.2∧b<ns.length∧ns.getD b nv0=(d.1,a,d.2.length,c)∧w.cell? ⟨ga,b*2,none⟩=some (.int .i64 d.1)∧w.cell? ⟨ga,b*2+1,none⟩=some (.slice a d.2.length c)∧d.2.length≤c:=by
 obtain⟨hb,hk,he,hcp⟩:=h.nd b d hd;obtain⟨a,c,hs⟩:=he.len;have e1:ns.getD b nv0=(d.1,a,d.2.length,c):=by
  generalize ns.getD b nv0=x at *;obtain⟨x1,x2,x3,x4⟩:=x;simp only[Value.slice.injEq]at hs;obtain⟨rfl,rfl,rfl⟩:=hs;simp only at hk;rw[hk]
 rw[e1]at he hcp;have hx:∀j,j<2→w.cell? ⟨ga,b*2+j,none⟩=(aCX (d.1,a,d.2.length,c))[j]?:=fun j hj=>by
  rw[h.arr.cell];have:=yN.at (ns++nj) (i:=b) (j:=j) (by simp;omega) hj;have e2:(ns++nj).getD b yN.z=(d.1,a,d.2.length,c):=by rw[cV,if_pos hb];exact e1
  rw[e2]at this;exact this
 exact⟨a,c,he,hb,e1,hx 0 (by omega),hx 1 (by omega),hcp⟩
theorem IsC.type_ne{w:World}{g g':Nat}{cs cs':Array Value}{t t':TypeId}(h:IsC w g cs t)(h':IsC w g' cs' t')(ht:t≠t'):g≠g':=fun e=>by
 subst e;unfold IsC at h h';rw[h]at h';simp only[sJ,Obj.cells.injEq]at h';exact ht h'.2.1
def K0(f:fZ)(b:Nat):List Nat:=bY (f.nodes b)
theorem aKJ{f:fZ}(b:Nat)(d:Nd)(h:f.nodes b=some d):K0 f b=kids d:=by unfold K0;rw[h];rfl
structure WkP(f:fZ)(w:World)(gc:Nat)(cj:List Int)(P:List Nat)(c':List Int)(r:Ending)(w':World):Prop where
 r:r=.returned (.tuple #[])
 j:∃e',J f (rc f.roots) c' e' P
 c:IsC w' gc (y64.row (c'++cj)) 2
 frm:Frm (fun k=>k=gc) w w'
structure WkI(f:fZ)(w:World)(gc:Nat)(cj:List Int)(P:List Nat)(c':List Int)(w':World):Prop where
 j:∃e',J f (rc f.roots) c' e' P
 c:IsC w' gc (y64.row (c'++cj)) 2
 frm:Frm (fun k=>k=gc) w w'
theorem aBJ{f:fZ}{ht:Nat→Nat}(hI:IC f)(hh:Hts f.nodes ht)(hK:∀x,cu f x≤1000000)(hE:∀b d,f.nodes b=some d→d.2.length≤10)(ga:Nat)(ns nj:List NV):
  ∀(m b:Nat) (d:Nd) (gc:Nat) (cj c:List Int) (e:Nat→Bool) (P:List Nat) (w:World),ht b=m→f.nodes b=some d→iZ w ga ns nj f.nodes→IsC w gc (y64.row (c++cj)) 2→J f (rc f.roots) c e (kids d++P)→
   Calls Tryz.prog 54 #[.slice (some ⟨ga,0,none⟩) ns.length (ns.length+nj.length),.int .i64 b,.slice (some ⟨gc,0,none⟩) c.length (c.length+cj.length)] w (WkP f w gc cj P (mD (K0 f) m b c)):=by
 intro m;induction m with
 | zero=>
  intro b d gc cj c e P w hm hd hN hc hJ;obtain⟨a,cp,hsl,hb,_,c0,c1,_⟩:=hN.at hd;have hk:d.1=1∧kids d=[]:=by
   rcases hh b d hd with⟨q,_⟩ | ⟨q,q'⟩
   ·exact⟨q,by simp[kids,q]⟩
   ·exfalso
    rcases hI.kb b d hd with q2 | ⟨_,q2,_⟩
    ·omega
    ·cases hl:d.2 with
     | nil=>exact q2 hl
     | cons x l=>
      have:ch x∈kids d:=by simp[kids,q,hl]
      have:=q' _ this;omega
  have hk1:(d.1 == 2)=false:=by rw[hk.1];rfl
  rw[hk.2]at hJ;have hbl:(b:Int) <(ns.length:Int):=by omega
  have HX:Hid (WkP f w gc cj P (mD (K0 f) 0 b c) (.returned (.tuple #[])) w):=⟨rfl,⟨e,hJ⟩,hc,Frm.refl _ _⟩;clear hk hJ hc;go_enter Tryz.func54,Tryz.ntmps54;go_wp2;refine bodyPost_ret (v:=.tuple #[]) (by simp[results,Tryz.f54,go_sem]) rfl ?_;exact HX.out
 | succ m ih=>
  intro b d gc cj c e P w hm hd hN hc hJ;obtain⟨a,cp,hsl,hb,_,c0,c1,_⟩:=hN.at hd;have hk:d.1=2∧∀k∈kids d,ht k=m:=by
   rcases hh b d hd with⟨_,q⟩ | ⟨q,q'⟩
   ·omega
   ·exact⟨q,fun k hk=>by have:=q' k hk;omega⟩
  have hkd:kids d=d.2.map ch:=by rw[kids,if_pos hk.1]
  have hk1:(d.1 == 2)=true:=by rw[hk.1];rfl
  have hbl:(b:Int) <(ns.length:Int):=by omega
  have hgac:ga≠gc:=hN.arr.type_ne hc (by decide);have HCL:Hid (c.length=f.cur.length):=hJ.len;have hel:=hE b d hd;have hnn:d.2≠[]:=by
   rcases hI.kb b d hd with q2 | ⟨_,q2,_⟩
   ·omega
   ·exact q2
  obtain⟨g,o,cp',he,hg,hcell⟩:=dZ hsl (List.length_pos_iff.2 hnn);cases he;have hgc:g≠gc:=by
   rcases hsl with⟨q,_⟩ | ⟨g',o',cap',xs,q,q1,_⟩
   ·cases q
   ·cases q;exact q1.type_ne hc (by decide)
  have HW:Hid (mD (K0 f) (m+1) b c=(kids d).foldl (vis (K0 f) m) c):=by show _=_;rw[tG,aKJ b d hd]
  generalize mD (K0 f) (m+1) b c=cW at *;go_enter Tryz.func54,Tryz.ntmps54;go_wp2;go_loopw [6,7] (fun i _ wr=>∃j:Nat,j≤d.2.length∧i=.int .i64 j∧WkI f w gc cj ((kids d).drop j++P) (((kids d).take j).foldl (vis (K0 f) m) c) wr) (fun i _ _=>d.2.length -(intOf i).toNat)
  case atStart=>exact⟨0,by omega,rfl,⟨e,by simpa using hJ⟩,by simpa using hc,Frm.refl _ _⟩
  case round=>
   obtain⟨j,hj,rfl,⟨⟨e1,hJ1⟩,hc1,hF1⟩⟩:=hrel;have c0':wr.cell? ⟨ga,b*2,none⟩=some (.int .i64 d.1):=by rw[←c0];simp[World.cell?,hF1.block ga hN.arr.lt hgac]
   have c1':wr.cell? ⟨ga,b*2+1,none⟩=some (.slice (some ⟨g,o,none⟩) d.2.length cp):=by rw[←c1];simp[World.cell?,hF1.block ga hN.arr.lt hgac]
   by_cases hlt:j<d.2.length
   ·obtain⟨x0,x1,x2⟩:=hcell wr j (hF1.block g hg hgc) hlt
    have hji:(j:Int) <(d.2.length:Int):=by omega
    have hpos:0≤(d.2.getD j e0).2.2:=by
     have hd':f.nodes b=some (2,d.2):=by rw[hd,←hk.1]
     exact hI.child_pos hd' hlt
    obtain⟨k,hkk⟩:=eZ (kd d.2 j);have hkc:(d.2.getD j e0).2.2=(k:Int):=by rw[←hkk];unfold kd ch;omega
    rw[hkc]at x2;have hkm:k∈kids d:=by
     have hd':d=(2,d.2):=by rw[←hk.1]
     rw[hd',←hkk];exact aO hlt
    obtain⟨dk,hdk⟩:=hI.kid_live hd hkm;have hkn:k<f.cur.length:=hI.lt hdk;have hdr:(kids d).drop j=k ::(kids d).drop (j+1):=by
     rw[hkd,List.drop_eq_getElem_cons (by simpa using hlt)];congr 1;rw[←hkk];unfold kd;rw[List.getElem_map,gD,gE hlt];rfl
    rw[hdr,List.cons_append]at hJ1;have htk:(kids d).take (j+1)=(kids d).take j++[k]:=by
     rw[List.take_add_one];congr 1;have:(kids d)[j]?=some k:=by
      have:=congrArg List.head? hdr
      rw[List.head?_drop]at this;simpa using this
     rw[this];rfl
    have HV:Hid (((kids d).take (j+1)).foldl (vis (K0 f) m) c=vis (K0 f) m (((kids d).take j).foldl (vis (K0 f) m) c) k):=by
     show _=_
     rw[htk,List.foldl_append];rfl
    have hJl:=hJ1.len;rw[←HCL.out]at hJl;have hJle:=hJ1.le hI k;have hKk:=hK k;rw[←HCL.out]at hkn;generalize ((kids d).take j).foldl (vis (K0 f) m) c=cj1 at *;have hkl:k<cj1.length:=by omega
    obtain⟨x,hx⟩:=eZ (cj1.getD k 0);have y0:=jD hc1 hkl;have z0:=hc1.frozen k;have y1:=nO hc1 hkl (x+1);have hkI:(k:Int) <(c.length:Int):=by omega
    rw[hx]at hJle y0;have hwrap:IntKind.i64.wrap (x+1)=x+1:=IntWalk.i64_in _ ⟨by omega,by omega⟩;have HI:Hid (gT cj1 k=cj1.set k (x+1)):=by show _=_;unfold gT;rw[hx]
    obtain⟨w2,hw2⟩:=eZ (wr.setCell ⟨gc,k,none⟩ (.int .i64 (x+1)));rw[hw2]at y1;have hF2:Frm (fun k=>k=gc) w w2:=hF1.trans (by rw[←hw2];exact Frm.set (S:=fun k=>k=gc) wr (p:=⟨gc,k,none⟩) rfl _);have hkl2:k <(cj1.set k (x+1)).length:=by simpa using hkl
    have y2:=jD y1 hkl2;have e5:(cj1.set k (x+1)).getD k 0=x+1:=by rw[eO,if_pos ⟨rfl,hkl⟩]
    rw[e5]at y2;have hN2:iZ w2 ga ns nj f.nodes:=hN.frm hF2 (fun g cs hg=>hg.type_ne hc (by decide)) hgac;have hlen:(cj1.set k (x+1)).length=c.length:=by rw[List.length_set];omega
    by_cases h0:x=0
    ·have hJ2:=hJ1.first hI hdk (hx.trans h0)
     have hv:vis (K0 f) m cj1 k=mD (K0 f) m k (gT cj1 k):=by
      unfold vis;rw[if_pos (by rw[HI.out,e5,h0];rfl)]
     rw[hv]at HV;rw[HI.out]at HV hJ2;have hic:=ih k dk gc cj _ _ _ w2 (hk.2 k hkm) hdk hN2 y1 hJ2;rw[hlen]at hic;have hx1:((x+1:Int) == 1)=true:=by rw[h0];rfl
     have HIC:Hid (Calls Tryz.prog 54 #[.slice (some ⟨ga,0,none⟩) ns.length (ns.length+nj.length),.int .i64 k,.slice (some ⟨gc,0,none⟩) c.length (c.length+cj.length)] w2 fun r w'=>r=.returned (.tuple #[])∧WkI f w gc cj ((kids d).drop (j+1)++P) (((kids d).take (j+1)).foldl (vis (K0 f) m) c) w'):=by
      refine hic.mono ?_;rintro r w3 ⟨rfl,k1,k2,k3⟩;rw[HV.out];exact⟨rfl,k1,k2,hF2.trans k3⟩
     clear hcell hJ1 hJ2 y1 e5 hJle h0 HI hN2 hv hic HV hlen hx hkk hkc hdr htk hkd hJl;go_wp2_with fail;refine HIC.out.mono ?_;rintro r w3 ⟨rfl,hR3⟩;go_wp2;go_roundw
     case rel=>exact⟨j+1,by omega,by go_num,hR3⟩
     case measure=>simp[intOf];omega
    ·have hJ2:=hJ1.more (by rw[←HCL.out];exact hkn) (by rw[hx];exact h0)
     have hv:vis (K0 f) m cj1 k=gT cj1 k:=by
      unfold vis;rw[if_neg (by rw[HI.out,e5];omega)]
     rw[hv]at HV;rw[HI.out]at HV hJ2;have hx1:((x+1:Int) == 1)=false:=by rw[beq_eq_false_iff_ne];omega
     have HR:Hid (WkI f w gc cj ((kids d).drop (j+1)++P) (((kids d).take (j+1)).foldl (vis (K0 f) m) c) w2):=by
      show WkI _ _ _ _ _ _ _
      rw[HV.out];exact⟨⟨_,hJ2⟩,y1,hF2⟩
     clear hcell hJ1 hJ2 y1 e5 hJle h0 HI hN2 hv HV hlen hx hkk hkc hdr htk hkd hJl;go_wp2;go_roundw
     case rel=>exact⟨j+1,by omega,by go_num,HR.out⟩
     case measure=>simp[intOf];omega
   ·obtain rfl:j=d.2.length:=by omega
    have e1':(kids d).length=d.2.length:=by rw[hkd];simp
    rw[List.drop_of_length_le (by omega),List.nil_append]at hJ1;rw[List.take_of_length_le (by omega),←HW.out]at hJ1 hc1;have HR:Hid (WkP f w gc cj P cW (.returned (.tuple #[])) wr):=⟨rfl,⟨e1,hJ1⟩,hc1,hF1⟩;clear hcell hJ1 hkd;go_wp2;refine bodyPost_ret (v:=.tuple #[]) (by simp[results,Tryz.f54,go_sem]) rfl ?_;exact HR.out
structure SA where
 ga:Nat
 ns:List NV
 nj:List NV
 gr:Nat
 rj:List (Int×Int)
 cv:Value
 tv:Value
def aL(A:SA)(f:fZ):Array Value:=#[.int .i64 f.cur.length,.slice (some ⟨A.ga,0,none⟩) A.ns.length (A.ns.length+A.nj.length),.slice (some ⟨A.gr,0,none⟩) f.roots.length (f.roots.length+A.rj.length),.int .i64 f.next,.int .i64 f.gen,A.cv,A.tv]
structure SpV(w:World)(A:SA)(f:fZ):Prop where
 nds:iZ w A.ga A.ns A.nj f.nodes
 ln:A.ns.length=f.cur.length
 rts:IsC w A.gr (yT.row (f.roots++A.rj)) 77
 rs:f.roots.length+A.rj.length≤maxLen
 com:y64.Sl w A.cv f.com
structure Sp(w:World)(S:Nat)(A:SA)(f:fZ):Prop where
 box:IsC w S (aL A f) 57
 v:SpV w A f
theorem SpV.frm{Z:Nat→Prop}{w w':World}{A:SA}{f:fZ}(h:SpV w A f)(k:Frm Z w w')(hE:∀g cs t,(t=110∨t=108∨t=77∨t=2)→IsC w g cs t→¬Z g):SpV w' A f:=
 ⟨h.nds.frm k (fun g cs hg=>hE g cs _ (.inl rfl) hg) (hE _ _ _ (.inr (.inl rfl)) h.nds.arr),h.ln,h.rts.frm k (hE _ _ _ (.inr (.inr (.inl rfl))) h.rts),h.rs,h.com.frm k fun g cs hg=>hE g cs _ (.inr (.inr (.inr rfl))) hg⟩
theorem SpV.below{w w':World}{A:SA}{f:fZ}(h:SpV w A f)(k:Bl w w'):SpV w' A f:=h.frm (Frm.of_below (S:=fun _=>False) k) fun _ _ _ _ _=>id
theorem Sp.below{w w':World}{S:Nat}{A:SA}{f:fZ}(h:Sp w S A f)(k:Bl w w'):Sp w' S A f:=⟨h.box.of (k.block _ h.box.lt),h.v.below k⟩
theorem Sp.cells{w:World}{S:Nat}{A:SA}{f:fZ}(h:Sp w S A f):w.cell? ⟨S,0,none⟩=some (.int .i64 f.cur.length)∧w.cell? ⟨S,1,none⟩=some (.slice (some ⟨A.ga,0,none⟩) A.ns.length (A.ns.length+A.nj.length))∧w.cell? ⟨S,2,none⟩=some (.slice (some ⟨A.gr,0,none⟩) f.roots.length (f.roots.length+A.rj.length))∧w.cell? ⟨S,3,none⟩=some (.int .i64 f.next)∧w.cell? ⟨S,4,none⟩=some (.int .i64 f.gen)∧w.cell? ⟨S,5,none⟩=some A.cv∧w.cell? ⟨S,6,none⟩=some A.tv:=by
 refine⟨?_,?_,?_,?_,?_,?_,?_⟩<;>rw[h.box.cell]<;>rfl
theorem SpV.root{w:World}{A:SA}{f:fZ}(h:SpV w A f){t:Nat}(ht:t<f.roots.length):w.cell? ⟨A.gr,t*2,none⟩=some (.int .i64 (f.roots.getD t (0,0)).1)∧w.cell? ⟨A.gr,t*2+1,none⟩=some (.int .i64 (f.roots.getD t (0,0)).2):=by
 have hx:∀j,j<2→w.cell? ⟨A.gr,t*2+j,none⟩=(aS (f.roots.getD t (0,0)))[j]?:=fun j hj=>by
  rw[h.rts.cell];have:=yT.at (f.roots++A.rj) (i:=t) (j:=j) (by simp;omega) hj;have e2:(f.roots++A.rj).getD t yT.z=f.roots.getD t (0,0):=by rw[cV,if_pos ht];rfl
  rw[e2]at this;exact this
 exact⟨hx 0 (by omega),hx 1 (by omega)⟩
structure CuI(f:fZ)(w:World)(B gc:Nat)(cj:List Int)(P:List Nat)(c':List Int)(w':World):Prop where
 j:∃e',J f (rc f.roots) c' e' P
 c:IsC w' gc (y64.row (c'++cj)) 2
 frm:Below B w w'
theorem fR{f:fZ}(hI:IC f)(hK:∀x,cu f x≤1000000)(hE:∀b d,f.nodes b=some d→d.2.length≤10)(w:World)(S:Nat)(A:SA)(h:Sp w S A f)(h16:f.roots.length≤100):
  Calls Tryz.prog 33 #[.pointer (some ⟨S,0,none⟩)] w fun r w'=>∃u,r=.returned u∧y64.Own w.heap.size w' u f.cur∧Bl w w':=by
 obtain⟨ht,hh⟩:=hI.ht;obtain⟨s0,s1,s2,_⟩:=h.cells;have h8:=hI.n8;have h5:=hI.n512;have HC:=aA (aJF hI hh (K:=K0 f) fun b d hd=>aKJ b d hd);have hst:=J.start f;unfold aLX at HC;go_enter Tryz.func33,Tryz.ntmps33;go_wp2_with fail;refine(pT f.cur.length h5 w).mono ?_;rintro r w1 ⟨u,rfl,⟨ag,cj,rfl,hrw,hbs⟩,hb1⟩;obtain⟨gc,rfl⟩:∃g,ag=some g:=by
  cases ag with
  | none=>have:=(hrw.nil rfl).1;have:=congrArg List.length this;rw[List.length_replicate,List.length_nil]at this;omega
  | some g=>exact⟨g,rfl⟩
 have hcz:IsC w1 gc (y64.row (List.replicate f.cur.length 0++cj)) 2:=hrw.arr gc rfl;have hgc:=hbs gc rfl;have hsm:=hrw.small;simp only[adr,Option.map_some,List.length_replicate]at hsm ⊢;have hSb:=h.box.lt;have HZ:Hid (List.replicate f.cur.length (0:Int)=List.replicate f.cur.length 0):=rfl;generalize List.replicate f.cur.length (0:Int)=zs at *;have hN:=h.v.nds;have HN:=aA hN;have HR:=aA fun(w':World) (hb:Bl w w')=>(h.below hb).v;have HB:=aA fun(w':World) (hb:Bl w w')=>(h.below hb).cells;clear hrw hbs h8;go_wp2;go_loopw [4,5] (fun i _ wr=>∃j:Nat,j≤f.roots.length∧i=.int .i64 j∧CuI f w w.heap.size gc cj (((f.roots.map fun r=>r.2.toNat)).drop j) (((f.roots.map fun r=>r.2.toNat).take j).foldl (fun c r=>vis (K0 f) (ht r) c r) zs) wr) (fun i _ _=>f.roots.length -(intOf i).toNat)
 case atStart=>exact⟨0,by omega,rfl,⟨_,by simpa using hst⟩,by simpa using hcz,hb1⟩
 case round=>
  obtain⟨j,hj,rfl,⟨⟨e1,hJ1⟩,hc1,hF1⟩⟩:=hrel;obtain⟨t0,t1,t2,_⟩:=HB.out wr hF1;have hN1:=(HR.out wr hF1).nds;by_cases hlt:j<f.roots.length
  ·obtain⟨r0,r1⟩:=(HR.out wr hF1).root hlt
   have hji:(j:Int) <(f.roots.length:Int):=by omega
   obtain⟨k,hkk⟩:=eZ (aB f j);have hrm:=aP hlt;have hkc:(f.roots.getD j (0,0)).2=(k:Int):=by rw[←hkk];unfold aB;have:=(hI.rb _ hrm).1;omega
   rw[hkc]at r1;obtain⟨dk,hdk⟩:=hI.root_live hrm;rw[hkc]at hdk;simp only[Int.toNat_natCast]at hdk;have hkn:=hI.lt hdk;have hge:(f.roots.map fun r=>r.2.toNat)[j]?=some k:=by
    rw[List.getElem?_map,gE hlt];rw[←hkk];unfold aB;rw[gD,gE hlt];rfl
   have hdr:(f.roots.map fun r=>r.2.toNat).drop j=k ::(f.roots.map fun r=>r.2.toNat).drop (j+1):=by
    obtain⟨hx,hy⟩:=List.getElem?_eq_some_iff.1 hge;rw[List.drop_eq_getElem_cons hx,hy]
   have htk:(f.roots.map fun r=>r.2.toNat).take (j+1)=(f.roots.map fun r=>r.2.toNat).take j++[k]:=by
    rw[List.take_add_one,hge];rfl
   rw[hdr]at hJ1;have HV:Hid (((f.roots.map fun r=>r.2.toNat).take (j+1)).foldl (fun c r=>vis (K0 f) (ht r) c r) zs=vis (K0 f) (ht k) (((f.roots.map fun r=>r.2.toNat).take j).foldl (fun c r=>vis (K0 f) (ht r) c r) zs) k):=by
    show _=_
    rw[htk,List.foldl_append];rfl
   have hJl:=hJ1.len;have hJle:=hJ1.le hI k;have hKk:=hK k;generalize ((f.roots.map fun r=>r.2.toNat).take j).foldl (fun c r=>vis (K0 f) (ht r) c r) zs=c1 at *;have hkl:k<c1.length:=by omega
   obtain⟨x,hx⟩:=eZ (c1.getD k 0);have y0:=jD hc1 hkl;have z0:=hc1.frozen k;have y1:=nO hc1 hkl (x+1);have hkI:(k:Int) <(f.cur.length:Int):=by omega
   rw[hx]at hJle y0;have hwrap:IntKind.i64.wrap (x+1)=x+1:=IntWalk.i64_in _ ⟨by omega,by omega⟩;have HI:Hid (gT c1 k=c1.set k (x+1)):=by show _=_;unfold gT;rw[hx]
   obtain⟨w2,hw2⟩:=eZ (wr.setCell ⟨gc,k,none⟩ (.int .i64 (x+1)));rw[hw2]at y1;have hF2:Bl w w2:=hF1.trans (by rw[←hw2];exact(bQ _ wr).setCell (p:=⟨gc,k,none⟩) hgc _);have hkl2:k <(c1.set k (x+1)).length:=by simpa using hkl
   have y2:=jD y1 hkl2;have e5:(c1.set k (x+1)).getD k 0=x+1:=by rw[eO,if_pos ⟨rfl,hkl⟩]
   rw[e5]at y2;have hN2:=(HR.out w2 hF2).nds;obtain⟨v0,v1,v2,_⟩:=HB.out w2 hF2;have hlen:(c1.set k (x+1)).length=f.cur.length:=by rw[List.length_set];omega
   by_cases h0:x=0
   ·have hJ2:=hJ1.first hI hdk (hx.trans h0)
    have hv:vis (K0 f) (ht k) c1 k=mD (K0 f) (ht k) k (gT c1 k):=by
     unfold vis;rw[if_pos (by rw[HI.out,e5,h0];rfl)]
    rw[hv]at HV;rw[HI.out]at HV hJ2;have hic:=aBJ hI hh hK hE A.ga A.ns A.nj (ht k) k dk gc cj _ _ _ w2 rfl hdk hN2 y1 hJ2;rw[hlen]at hic;have hx1:((x+1:Int) == 1)=true:=by rw[h0];rfl
    have HIC:Hid (Calls Tryz.prog 54 #[.slice (some ⟨A.ga,0,none⟩) A.ns.length (A.ns.length+A.nj.length),.int .i64 k,.slice (some ⟨gc,0,none⟩) f.cur.length (f.cur.length+cj.length)] w2 fun r w'=>r=.returned (.tuple #[])∧CuI f w w.heap.size gc cj (((f.roots.map fun r=>r.2.toNat)).drop (j+1)) (((f.roots.map fun r=>r.2.toNat).take (j+1)).foldl (fun c r=>vis (K0 f) (ht r) c r) zs) w'):=by
     refine hic.mono ?_;rintro r w3 ⟨rfl,k1,k2,k3⟩;rw[HV.out];exact⟨rfl,k1,k2,hF2.trans (k3.below hF2.size fun k e=>by rw[e];exact hgc)⟩
    clear hJ1 hJ2 y1 e5 hJle h0 HI hN2 hv hic HV hlen hx hkk hkc hdr htk hJl hge hN1;go_wp2_with fail;refine HIC.out.mono ?_;rintro r w3 ⟨rfl,hR3⟩;go_wp2;go_roundw
    case rel=>exact⟨j+1,by omega,by go_num,hR3⟩
    case measure=>simp[intOf];omega
   ·have hJ2:=hJ1.more (hkn) (by rw[hx];exact h0)
    have hv:vis (K0 f) (ht k) c1 k=gT c1 k:=by
     unfold vis;rw[if_neg (by rw[HI.out,e5];omega)]
    rw[hv]at HV;rw[HI.out]at HV hJ2;have hx1:((x+1:Int) == 1)=false:=by rw[beq_eq_false_iff_ne];omega
    have HR:Hid (CuI f w w.heap.size gc cj (((f.roots.map fun r=>r.2.toNat)).drop (j+1)) (((f.roots.map fun r=>r.2.toNat).take (j+1)).foldl (fun c r=>vis (K0 f) (ht r) c r) zs) w2):=by
     show CuI _ _ _ _ _ _ _ _
     rw[HV.out];exact⟨⟨_,hJ2⟩,y1,hF2⟩
    clear hJ1 hJ2 y1 e5 hJle h0 HI hN2 hv HV hlen hx hkk hkc hdr htk hJl hge hN1;go_wp2;go_roundw
    case rel=>exact⟨j+1,by omega,by go_num,HR.out⟩
    case measure=>simp[intOf];omega
  ·obtain rfl:j=f.roots.length:=by omega
   rw[List.take_of_length_le (by simp),HC.out]at hc1;have HX:Hid (y64.Own w.heap.size wr (.slice (some ⟨gc,0,none⟩) f.cur.length (f.cur.length+cj.length)) f.cur):=⟨some gc,cj,rfl,⟨fun g e=>(by cases e;exact hc1),fun e=>(by cases e),hsm⟩,fun g e=>(by cases e;exact hgc)⟩;clear hc1 hJ1 hN1;go_wp2;go_ret;exact⟨_,rfl,HX.out,hF1⟩
theorem mQ{w:World}{u:Value}{l:List Int}(h:y64.Sl w u l)(hl:0<l.length):∃g o c,u=.slice (some ⟨g,o,none⟩) l.length c∧g<w.heap.size∧(∃cs,IsC w g cs 2)∧∀(w':World) (i:Nat),(w'.heap[g]?=w.heap[g]?)→i<l.length→w'.cell? ⟨g,o+i,none⟩=some (.int .i64 (l.getD i 0)):=by
 rcases h with⟨rfl,rfl⟩ | ⟨g,o,cap,xs,rfl,h1,h2,h3⟩
 ·simp at hl
 ·obtain⟨g',o',c',e,hg,hc⟩:=(show y64.Sl w (.slice (some ⟨g,o*y64.n,none⟩) l.length cap) l from .inr ⟨g,o,cap,xs,rfl,h1,h2,h3⟩).at hl
  cases e
  refine⟨g,_,_,rfl,hg,⟨_,h1⟩,fun w' i he hi=>?_⟩;have hw:∀k,w'.cell? ⟨g,k,none⟩=w.cell? ⟨g,k,none⟩:=fun k=>by simp[World.cell?,he]
  have:=hc i 0 hi (by decide)
  have e:o*y64.n+i*y64.n+0=o*y64.n+i:=by show o*1+i*1+0=o*1+i;omega
  rw[e]at this;rw[hw];exact this
theorem aAR{f:fZ}{held:Int}{b:Nat}(h:∀x,x<b→frB f held x=false)(hb:frB f held b=true)(hl:b<f.cur.length):mA f held=(b:Int):=by
 unfold mA;have:(List.range f.cur.length).find? (frB f held)=some b:=by
  rw[List.find?_range_eq_some];exact⟨hb,by simpa using hl,fun x hx=>by rw[h x hx];rfl⟩
 rw[this]
theorem aAO{f:fZ}{held:Int}(h:∀x,x<f.cur.length→frB f held x=false):mA f held=-1:=by
 unfold mA;have:(List.range f.cur.length).find? (frB f held)=none:=by
  rw[List.find?_eq_none];intro x hx;rw[h x (List.mem_range.1 hx)];simp
 rw[this]
theorem mP{f:fZ}(hI:IC f)(hK:∀x,cu f x≤1000000)(hE:∀b d,f.nodes b=some d→d.2.length≤10)(w:World)(S:Nat)(A:SA)(h:Sp w S A f)(h16:f.roots.length≤100)(held:Int):
  Calls Tryz.prog 88 #[.pointer (some ⟨S,0,none⟩),.int .i64 held] w fun r w'=>r=.returned (.int .i64 (mA f held))∧Bl w w':=by
 have h8:=hI.n8;have h5:=hI.n512;go_enter Tryz.func88,Tryz.ntmps88;go_wp2_with fail;refine(fR hI hK hE w S A h h16).mono ?_;rintro r w1 ⟨u,rfl,hu,hb1⟩;obtain⟨gc,oc,cc,rfl,hgc,_,hcell⟩:=mQ hu.sl (by omega);have h1:=h.below hb1;obtain⟨s0,_,_,_,_,s5,_⟩:=h1.cells;obtain⟨gm,om,cm,hcv,hgm,_,hcem⟩:=mQ h1.v.com (by rw[hI.len];omega);rw[hcv]at s5;have HL:Hid (f.com.length=f.cur.length):=hI.len;clear hcv hu;go_wp2;go_loopw [6] (fun i wr=>∃k:Nat,2≤k∧k≤f.cur.length∧i=.int .i64 k∧Is2 (.bool false) (.bool false) wr w1∧Hid (∀x,x<k→frB f held x=false)) (fun i _=>f.cur.length -(intOf i).toNat)
 case atStart=>exact⟨2,by omega,by omega,rfl,⟨rfl,rfl⟩,fun x hx=>by unfold frB;rw[decide_eq_false (by omega)];simp⟩
 case round=>
  obtain⟨k,hk2,hkn,rfl,⟨_,rfl⟩,hall⟩:=hrel;by_cases hlt:k<f.cur.length
  ·have x0:=hcell wr k rfl hlt
   have x1:=hcem wr k rfl (by rw[HL.out];exact hlt);have hki:(k:Int) <(f.cur.length:Int):=by omega
   have hkm:(k:Int) <(f.com.length:Int):=by rw[HL.out];omega
   have HF:Hid (frB f held k=(decide (2≤k) && (f.cur.getD k 0 == 0) && (f.com.getD k 0 == 0) && !((k:Int) == held))):=rfl;rw[decide_eq_true hk2]at HF;generalize f.cur.getD k 0=x at *;generalize f.com.getD k 0=y at *;have HN:Hid (frB f held k=false→∀x,x<k+1→frB f held x=false):=fun q z hz=>by
    by_cases e:z=k
    ·rw[e];exact q
    ·exact hall.out z (by omega)
   clear hcell hcem;cases ex:(x == 0)with
   | false=>
    rw[ex]at HF;go_wp2;go_roundw
    case rel=>exact⟨k+1,by omega,by omega,by go_num,⟨rfl,rfl⟩,HN.out (by rw[HF.out];rfl)⟩
    case measure=>simp[intOf];omega
   | true=>
    cases ey:(y == 0)with
    | false=>
     rw[ex,ey]at HF;go_wp2;go_roundw
     case rel=>exact⟨k+1,by omega,by omega,by go_num,⟨rfl,rfl⟩,HN.out (by rw[HF.out];rfl)⟩
     case measure=>simp[intOf];omega
    | true=>
     cases eh:((k:Int) == held)with
     | true=>
      rw[ex,ey,eh]at HF;go_wp2;go_roundw
      case rel=>exact⟨k+1,by omega,by omega,by go_num,⟨rfl,rfl⟩,HN.out (by rw[HF.out];rfl)⟩
      case measure=>simp[intOf];omega
     | false=>
      rw[ex,ey,eh]at HF;have HT:=aA (aAR hall.out (by rw[HF.out];rfl) hlt);go_wp2;go_ret;exact⟨by rw[HT.out];rfl,hb1⟩
  ·obtain rfl:k=f.cur.length:=by omega
   have HT:=aA (aAO hall.out);clear hcell hcem;go_wp2;go_ret;exact⟨by rw[HT.out];rfl,hb1⟩
def set2(w:World)(g q:Nat)(x:NV):World:=(w.setCell ⟨g,q*2,none⟩ (.int .i64 x.1)).setCell ⟨g,q*2+1,none⟩ (.slice x.2.1 x.2.2.1 x.2.2.2)
theorem eF(w:World)(g q:Nat)(x:NV):Frm (fun k=>k=g) w (set2 w g q x):=(Frm.set (S:=fun k=>k=g) w (p:=⟨g,q*2,none⟩) rfl _).trans (Frm.set (S:=fun k=>k=g) _ (p:=⟨g,q*2+1,none⟩) rfl _)
theorem aKU(l:List NV)(q:Nat)(x:NV)(h:q<l.length):((yN.row l).setIfInBounds (q*2) (.int .i64 x.1)).setIfInBounds (q*2+1) (.slice x.2.1 x.2.2.1 x.2.2.2)=yN.row (l.set q x):=by
 unfold Ely.row;rw[List.setIfInBounds_toArray,List.setIfInBounds_toArray];congr 1;induction l generalizing q with
 | nil=>simp at h
 | cons a l ih=>
  cases q with
  | zero=>rfl
  | succ q=>
   simp only[List.flatMap_cons,List.set_cons_succ];have e:yN.cell a=[.int .i64 a.1,.slice a.2.1 a.2.2.1 a.2.2.2]:=rfl;rw[e];have e1:(q+1)*2=q*2+1+1:=by omega
   rw[e1];show [_,_]++((l.flatMap yN.cell).set (q*2) _).set (q*2+1) _=_
   rw[ih q (by simpa using h)]
theorem iZ.set2{w:World}{ga:Nat}{ns nj:List NV}{nodes:Nat→Option Nd}(h:iZ w ga ns nj nodes){q:Nat}(hq:q<ns.length){x:NV}{d:Nd}(hx:NdR w x d):iZ (Go.Proofs.YtaahkgkdpnnhhaaGreat.set2 w ga q x) ga (ns.set q x) nj (upd nodes q (some d)):=by
 have hF:=eF w ga q x;have hS:∀g cs,IsC w g cs 110→¬g=ga:=fun g cs hg=>hg.type_ne h.arr (by decide);refine⟨?_,fun b d' hd=>?_,by simpa using h.small⟩
 ·have:=(h.arr.set (q*2) (.int .i64 x.1)).set (q*2+1) (.slice x.2.1 x.2.2.1 x.2.2.2)
  rw[aKU _ _ _ (by simp;omega),List.set_append_left _ _ hq]at this;exact this
 ·rw[List.length_set,bA _ _ _ _ _ hq]
  by_cases e:b=q
  ·rw[e,aD]at hd
   cases hd
   rw[if_pos e];exact⟨by rw[e];exact hq,hx.frm hF hS⟩
  ·rw[aC _ _ e]at hd
   rw[if_neg e];exact⟨(h.nd b d' hd).1,(h.nd b d' hd).2.frm hF hS⟩
def SA.setN(A:SA)(q:Nat)(x:NV):SA:={A with ns:=A.ns.set q x}
theorem Sp.set2{w:World}{S:Nat}{A:SA}{f:fZ}(h:Sp w S A f){q:Nat}(hq:q<f.cur.length){x:NV}{d:Nd}(hx:NdR w x d):Sp (Go.Proofs.YtaahkgkdpnnhhaaGreat.set2 w A.ga q x) S (A.setN q x) (setN f q d):=by
 have hF:=eF w A.ga q x;have hg:=h.v.nds.arr;refine⟨?_,h.v.nds.set2 (by rw[h.v.ln];exact hq) hx,by simp[SA.setN,h.v.ln,Fo.setN],h.v.rts.frm hF (h.v.rts.type_ne hg (by decide)),h.v.rs,h.v.com.frm hF fun g cs k=>k.type_ne hg (by decide)⟩;have:=h.box.frm hF (h.box.type_ne hg (by decide));have e:aL (A.setN q x) (Fo.setN f q d)=aL A f:=by simp[aL,SA.setN,Fo.setN]
 rw[e];exact this
theorem Sp.sub{w:World}{S:Nat}{A:SA}{f g:fZ}(h:Sp w S A f)(hn:∀b d,g.nodes b=some d→f.nodes b=some d)(hl:g.cur.length=f.cur.length)(hr:g.roots=f.roots)(h1:g.next=f.next)(h2:g.gen=f.gen)(h3:g.com=f.com):Sp w S A g:=by
 refine⟨?_,h.v.nds.sub hn,by rw[hl];exact h.v.ln,by rw[hr];exact h.v.rts,by rw[hr];exact h.v.rs,by rw[h3];exact h.v.com⟩;have e:aL A g=aL A f:=by unfold aL;rw[hl,hr,h1,h2]
 rw[e];exact h.box
theorem jH(w:World)(g q:Nat)(v0 v1:Value){b o:Nat}(h:b≠g∨(o≠q*2∧o≠q*2+1)):((w.setCell ⟨g,q*2,none⟩ v0).setCell ⟨g,q*2+1,none⟩ v1).drew.cell? ⟨b,o,none⟩=w.cell? ⟨b,o,none⟩:=by
 show((w.setCell ⟨g,q*2,none⟩ v0).setCell ⟨g,q*2+1,none⟩ v1).cell? ⟨b,o,none⟩=_
 rw[World.cell?_setCell_other,World.cell?_setCell_other]
 ·intro e;simp only[Addr.mk.injEq]at e;omega
 ·intro e;simp only[Addr.mk.injEq]at e;omega
theorem Sp.drew{w:World}{S:Nat}{A:SA}{f:fZ}(h:Sp w S A f):Sp w.drew S A f:=h.below (bQ _ w).drew
theorem Sp.wr{w:World}{S:Nat}{A:SA}{f:fZ}(h:Sp w S A f){q:Nat}(hq:q<f.cur.length):∃k0 k1,w.cell? ⟨A.ga,q*2,none⟩=some k0∧w.cell? ⟨A.ga,q*2+1,none⟩=some k1∧w.frozen? ⟨A.ga,q*2,none⟩=false∧w.frozen? ⟨A.ga,q*2+1,none⟩=false∧(q:Int) <(A.ns.length:Int):=by
 have hl:=h.v.ln;have hs:(yN.row (A.ns++A.nj)).size=(A.ns++A.nj).length*2:=yN.size _;rw[lP]at hs;refine⟨(yN.row (A.ns++A.nj))[q*2]'(by omega),(yN.row (A.ns++A.nj))[q*2+1]'(by omega),?_,?_,h.v.nds.arr.frozen _,h.v.nds.arr.frozen _,by omega⟩
 ·rw[h.v.nds.arr.cell,Array.getElem?_eq_getElem]
 ·rw[h.v.nds.arr.cell,Array.getElem?_eq_getElem]
structure ZhP(w:World)(S:Nat)(A:SA)(f:fZ)(p:Nat)(d:Nd)(r:Ending)(w':World):Prop where
 own:own f p→r=.returned (.int .i64 p)∧Bl w w'
 no:¬Fo.own f p→aF f=0→r=.returned (.int .i64 (-1))∧Bl w w'
 yes:¬Fo.own f p→aF f≠0→r=.returned (.int .i64 (aF f))∧Sp w' S (A.setN (aF f) (A.ns.getD p nv0)) (setN f (aF f) d)∧Frm (fun k=>k=A.ga) w w'
theorem nT{f:fZ}(hI:IC f)(hE:∀b d,f.nodes b=some d→d.2.length≤10)(w:World)(S:Nat)(A:SA)(h:Sp w S A f)(h16:f.roots.length≤16)(p:Nat)(d:Nd)(hd:f.nodes p=some d):
  Calls Tryz.prog 87 #[.pointer (some ⟨S,0,none⟩),.int .i64 p] w (ZhP w S A f p d):=by
 have hK:=hI.counts h16 hE;have h8:=hI.n8;have hpl:=hI.lt hd;obtain⟨_,s1,_,_,_,s5,_⟩:=h.cells;obtain⟨gm,om,cm,hcv,hgm,_,hcem⟩:=mQ h.v.com (by rw[hI.len];omega);rw[hcv]at s5;have hpm:(p:Int) <(f.com.length:Int):=by rw[hI.len];omega
 have x0:=hcem w p rfl (by rw[hI.len];exact hpl);have HC:Hid (co f p=f.com.getD p 0):=rfl;have HU:Hid (cu f p=f.cur.getD p 0):=rfl;have hcur:=fR hI hK hE w S A h (by omega);have HT:=aA (mZ f);have htk:Hid (∀w',Bl w w'→Calls Tryz.prog 88 #[.pointer (some ⟨S,0,none⟩),.int .i64 (-1)] w' fun r w2=>r=.returned (.int .i64 (mA f (-1)))∧Bl w w2):=fun w' hb=>
  (mP hI hK hE w' S A (h.below hb) (by omega) (-1)).mono fun r w2 hw=>⟨hw.1,hb.trans (hw.2.mono hb.size)⟩
 clear hcem hcv;obtain⟨y,hy⟩:=eZ (f.com.getD p 0);rw[hy]at x0;have HO:Hid (Fo.own f p↔f.cur.getD p 0=1∧y=0):=by rw[←hy];exact Iff.rfl
 clear hy HC HU;obtain⟨x,hx⟩:=eZ (f.cur.getD p 0);have HCU:Hid (Calls Tryz.prog 33 #[.pointer (some ⟨S,0,none⟩)] w fun r w'=>∃g o c,r=.returned (.slice (some ⟨g,o,none⟩) f.cur.length c)∧w'.cell? ⟨g,o+p,none⟩=some (.int .i64 x)∧Bl w w'):=by
  refine hcur.mono ?_;rintro r w1 ⟨u,rfl,hu,hb1⟩;obtain⟨gc,oc,cc,rfl,hgc,_,hcell⟩:=mQ hu.sl (by omega);have:=hcell w1 p rfl hpl;rw[hx]at this;exact⟨gc,oc,cc,rfl,this,hb1⟩
 rw[hx]at HO;clear hx hcur;have hpI:(p:Int) <(f.cur.length:Int):=by omega
 have HS:=aA fun(w':World) (hb:Bl w w')=>h.below hb;go_enter Tryz.func87,Tryz.ntmps87;by_cases ho:x=1∧y=0
 ·have HOW:Hid (Fo.own f p):=HO.out.2 ho
  obtain⟨rfl,rfl⟩:=ho;go_wp2_with fail;refine HCU.out.mono ?_;rintro r w1 ⟨gc,oc,cc,rfl,z0,hb1⟩;go_wp2;go_ret;exact⟨fun _=>⟨rfl,hb1⟩,fun q=>absurd HOW.out q,fun q=>absurd HOW.out q⟩
 ·have HN:Hid (¬Fo.own f p):=fun q=>ho (HO.out.1 q)
  by_cases ey:y=0
  case' pos=>
   have ex:(x == 1)=false:=by rw[beq_eq_false_iff_ne];exact fun q=>ho ⟨q,ey⟩
   clear HO;subst ey;clear ho;go_wp2_with fail;refine HCU.out.mono ?_;rintro r w1 ⟨gc,oc,cc,rfl,z0,hb1⟩;go_wp2_with fail
  case' neg=>
   have ey':(y == 0)=false:=by simpa using ey
   have hb1:Bl w w:=bQ _ _;clear HO ho ey;obtain⟨w1,hw1⟩:∃w1,w1=w:=⟨_,rfl⟩;go_wp2_with fail
  all_goals (
   refine(htk.out _ hb1).mono ?_;rintro r w2 ⟨rfl,hb2⟩;rw[HT.out];by_cases hl:aF f=0
   ·rw[if_pos hl]
    have HL:=aA hl;clear hl;go_wp2;go_ret;exact⟨fun q=>absurd q HN.out,fun _ _=>⟨rfl,hb2⟩,fun _ q=>absurd HL.out q⟩
   ·rw[if_neg hl]
    obtain⟨_,hq2,hq0,_⟩:=aQ hl;have hS2:=HS.out w2 hb2;obtain⟨_,hv1,_⟩:=hS2.cells;obtain⟨a,c,hsl,hb,hns,c0,c1,_⟩:=hS2.v.nds.at hd;obtain⟨k0,k1,hk0,hk1,hz0,hz1,hlI⟩:=hS2.wr hq2;have hNd:=(hS2.v.nds.nd p d hd).2;have hS3:=hS2.set2 hq2 hNd;have hne:p≠aF f:=fun e=>by have:=hI.cu_pos hd;rw[e]at this;omega
    have hF3:=(Frm.of_below (S:=fun k=>k=A.ga) hb2).trans (eF w2 A.ga (aF f) (A.ns.getD p nv0));rw[hns]at hS3 hF3;have hpI2:(p:Int) <(A.ns.length:Int):=by rw[h.v.ln];omega
    have HR:Hid (∀w3,w3=(set2 w2 A.ga (aF f) (d.1,a,d.2.length,c)).drew→ZhP w S A f p d (.returned (.int .i64 (aF f))) w3):=fun w3 e=>by
     rw[e];exact⟨fun q=>absurd q HN.out,fun _ q=>absurd q hl,fun _ _=>⟨rfl,by rw[hns];exact hS3.drew,hF3.trans (Frm.drew _ _)⟩⟩
    obtain⟨q,hq⟩:=eZ (aF f);rw[hq]at hz0 hz1 hk0 hk1 hne hlI HR;rw[hq];clear hS3 hF3 hNd hS2 hns hl hq0 hq2 hq;have hSg:S≠A.ga:=h.box.type_ne h.v.nds.arr (by decide);have HKP:Hid (∀v0 v1,((w2.setCell ⟨A.ga,q*2,none⟩ v0).setCell ⟨A.ga,q*2+1,none⟩ v1).drew.cell? ⟨S,1,none⟩=some (.slice (some ⟨A.ga,0,none⟩) A.ns.length (A.ns.length+A.nj.length))∧((w2.setCell ⟨A.ga,q*2,none⟩ v0).setCell ⟨A.ga,q*2+1,none⟩ v1).drew.cell? ⟨A.ga,p*2,none⟩=some (.int .i64 d.1)∧((w2.setCell ⟨A.ga,q*2,none⟩ v0).setCell ⟨A.ga,q*2+1,none⟩ v1).drew.cell? ⟨A.ga,p*2+1,none⟩=some (.slice a d.2.length c)):=fun v0 v1=>by
     rw[jH _ _ _ _ _ (.inl hSg),jH _ _ _ _ _ (.inr ⟨by omega,by omega⟩),jH _ _ _ _ _ (.inr ⟨by omega,by omega⟩)];exact⟨hv1,c0,c1⟩
    go_wp2
    go_region_held3 (fun W=>W.cell? ⟨S,1,none⟩=some (.slice (some ⟨A.ga,0,none⟩) A.ns.length (A.ns.length+A.nj.length))∧W.cell? ⟨A.ga,p*2,none⟩=some (.int .i64 d.1)∧W.cell? ⟨A.ga,p*2+1,none⟩=some (.slice a d.2.length c)) (first | exact HKP.out _ _ | go_keep) ((fail))
    go_wp2
    go_ret
    exact HR.out _ rfl)
