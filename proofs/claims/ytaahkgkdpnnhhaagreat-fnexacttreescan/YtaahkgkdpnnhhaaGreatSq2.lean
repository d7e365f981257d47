import Derived.Deep.DeepCutAuto
import Derived.Test.YtaahkgkdpnnhhaaGreatGw
set_option maxHeartbeats 9999999
set_option maxRecDepth 99999
set_option linter.all false
namespace Go.Proofs.YtaahkgkdpnnhhaaGreat
open Go.RowKit Fo
variable{e:Ending}{gk:Int}{nj ns:List NV}{x:NV}{S b cap g ga len o q t:Nat}{nodes:Nat→Option Nd}{d:Nd}{r:Option fZ}{α:Type}{u:Value}{w w' w1 w2:World}{f:fZ}
structure NdR(w:World)(x:NV)(d:Nd):Prop where
 k:x.1=d.1
 e:yE.Sl w (.slice x.2.1 x.2.2.1 x.2.2.2) d.2
 c:x.2.2.1≤x.2.2.2
abbrev nv0:NV:=(0,none,0,0)
structure iX(w:World)(ga:Nat)(ns nj:List NV)(nodes:Nat→Option Nd):Prop where
 arr:IsC w ga (yN.row (ns++nj)) 108
 nd:∀b d,nodes b=some d→b<ns.length∧NdR w (ns.getD b nv0) d
 small:ns.length+nj.length≤maxLen
theorem NdR.frm{S:Nat→Prop}(h:NdR w x d)(k:Frm S w w')(hS:∀g cs,IsC w g cs 110→¬S g):NdR w' x d:=⟨h.k,h.e.frm k hS,h.c⟩
theorem iX.frm{S:Nat→Prop}(h:iX w ga ns nj nodes)(k:Frm S w w')(hS:∀g cs,IsC w g cs 110→¬S g)(hg:¬S ga):iX w' ga ns nj nodes:=
 ⟨h.arr.frm k hg,fun b d hd=>⟨(h.nd b d hd).1,(h.nd b d hd).2.frm k hS⟩,h.small⟩
theorem iX.below(h:iX w ga ns nj nodes)(k:Bl w w'):iX w' ga ns nj nodes:=h.frm (Frm.of_below (S:=fun _=>False) k) (fun _ _ _=>id) id
theorem iX.sub{nodes':Nat→Option Nd}(h:iX w ga ns nj nodes)(hs:∀b d,nodes' b=some d→nodes b=some d):iX w ga ns nj nodes':=⟨h.arr,fun b d hd=>h.nd b d (hs b d hd),h.small⟩
theorem iX.at(h:iX w ga ns nj nodes)(hd:nodes b=some d):∃a c,yE.Sl w (.slice a d.2.length c) d.2∧b<ns.length∧ns.getD b nv0=(d.1,a,d.2.length,c)∧w.cell? ⟨ga,b*2,none⟩=some (.int .i64 d.1)∧w.cell? ⟨ga,b*2+1,none⟩=some (.slice a d.2.length c)∧d.2.length≤c:=by
 obtain⟨hb,hk,he,pp⟩:=h.nd b d hd;obtain⟨a,c,hs⟩:=he.len;have e1:ns.getD b nv0=(d.1,a,d.2.length,c):=by
  generalize ns.getD b nv0=x at *;obtain⟨x1,x2,x3,x4⟩:=x;simp only[Value.slice.injEq]at hs;obtain⟨rfl,rfl,rfl⟩:=hs;simp only at hk;rw[hk]
 rw[e1]at he pp;have hx:∀j,j<2→w.cell? ⟨ga,b*2+j,none⟩=(aCJ (d.1,a,d.2.length,c))[j]?:=fun j hj=>by
  rw[h.arr.cell];have:=yN.at (ns++nj) (i:=b) (j:=j) (by simp;omega) hj;have e2:(ns++nj).getD b yN.z=(d.1,a,d.2.length,c):=by rw[cM,if_pos hb];exact e1
  rw[e2]at this;exact this
 exact⟨a,c,he,hb,e1,hx 0 (by omega),hx 1 (by omega),pp⟩
theorem IsC.type_ne{g':Nat}{cs cs':Array Value}{t t':TypeId}(h:IsC w g cs t)(h':IsC w g' cs' t')(ht:t≠t'):g≠g':=fun e=>by
 subst e;unfold IsC at h h';rw[h]at h';simp only[sJ,Obj.cells.injEq]at h';exact ht h'.2.1
def K0(f:fZ)(b:Nat):List Nat:=bZ (f.nodes b)
theorem aKU(b:Nat)(d:Nd)(h:f.nodes b=some d):K0 f b=kids d:=by unfold K0;rw[h];rfl
structure WkP(f:fZ)(w:World)(gc:Nat)(cj:List Int)(P:List Nat)(c':List Int)(r:Ending)(w':World):Prop where
 r:r=.returned (.tuple #[])
 j:∃e',J f (rc f.roots) c' e' P
 c:IsC w' gc (y64.row (c'++cj)) 2
 frm:Frm (fun k=>k=gc) w w'
structure WkI(f:fZ)(w:World)(gc:Nat)(cj:List Int)(P:List Nat)(c':List Int)(w':World):Prop where
 j:∃e',J f (rc f.roots) c' e' P
 c:IsC w' gc (y64.row (c'++cj)) 2
 frm:Frm (fun k=>k=gc) w w'
theorem aBG{ht:Nat→Nat}(hI:IC f)(hh:Hts f.nodes ht)(hK:∀x,cu f x≤1000000)(hE:∀b d,f.nodes b=some d→d.2.length≤10)(ga:Nat)(ns nj:List NV):
  ∀(m b:Nat) (d:Nd) (gc:Nat) (cj c:List Int) (e:Nat→Bool) (P:List Nat) (w:World),ht b=m→f.nodes b=some d→iX w ga ns nj f.nodes→IsC w gc (y64.row (c++cj)) 2→J f (rc f.roots) c e (kids d++P)→
   Calls Tryz.prog 54 #[.slice (some ⟨ga,0,none⟩) ns.length (ns.length+nj.length),.int .i64 b,.slice (some ⟨gc,0,none⟩) c.length (c.length+cj.length)] w (WkP f w gc cj P (mE (K0 f) m b c)):=by
 intro m;induction m with
 | zero=>
  intro b d gc cj c e P w hm hd hN hc hJ;obtain⟨a,cp,eS,hb,_,c0,c1,_⟩:=hN.at hd;have hk:d.1=1∧kids d=[]:=by
   rcases hh b d hd with⟨q,_⟩ | ⟨q,q'⟩
   ·exact⟨q,by simp[kids,q]⟩
   ·exfalso
    rcases hI.kb b d hd with q2 | ⟨_,q2,_⟩
    ·omega
    ·cases hl:d.2 with
     | nil=>exact q2 hl
     | cons x l=>
      have:ch x∈kids d:=by simp[kids,q,hl]
      have:=q' _ this;omega
  have fw:(d.1 == 2)=false:=by rw[hk.1];rfl
  rw[hk.2]at hJ;have d9:(b:Int) <(ns.length:Int):=by omega
  have HX:Hid (WkP f w gc cj P (mE (K0 f) 0 b c) (.returned (.tuple #[])) w):=⟨rfl,⟨e,hJ⟩,hc,Frm.refl _ _⟩;clear hk hJ hc;go_enter Tryz.func54,Tryz.ntmps54;go_wp2;refine bodyPost_ret (v:=.tuple #[]) (by simp[results,Tryz.f54,go_sem]) rfl ?_;exact HX.out
 | succ m ih=>
  intro b d gc cj c e P w hm hd hN hc hJ;obtain⟨a,cp,eS,hb,_,c0,c1,_⟩:=hN.at hd;have hk:d.1=2∧∀k∈kids d,ht k=m:=by
   rcases hh b d hd with⟨_,q⟩ | ⟨q,q'⟩
   ·omega
   ·exact⟨q,fun k hk=>by have:=q' k hk;omega⟩
  have ie:kids d=d.2.map ch:=by rw[kids,if_pos hk.1]
  have fw:(d.1 == 2)=true:=by rw[hk.1];rfl
  have d9:(b:Int) <(ns.length:Int):=by omega
  have Jg:ga≠gc:=hN.arr.type_ne hc (by decide);have LV:Hid (c.length=f.cur.length):=hJ.len;have re:=hE b d hd;have Av:d.2≠[]:=by
   rcases hI.kb b d hd with q2 | ⟨_,q2,_⟩
   ·omega
   ·exact q2
  obtain⟨g,o,cp',he,hg,aa⟩:=dZ eS (List.length_pos_iff.2 Av);cases he;have bp:g≠gc:=by
   rcases eS with⟨q,_⟩ | ⟨g',o',cap',xs,q,q1,_⟩
   ·cases q
   ·cases q;exact q1.type_ne hc (by decide)
  have HW:Hid (mE (K0 f) (m+1) b c=(kids d).foldl (vis (K0 f) m) c):=by show _=_;rw[tO,aKU b d hd]
  generalize mE (K0 f) (m+1) b c=cW at *;go_enter Tryz.func54,Tryz.ntmps54;go_wp2;go_loopw [6,7] (fun i _ wr=>∃j:Nat,j≤d.2.length∧i=.int .i64 j∧WkI f w gc cj ((kids d).drop j++P) (((kids d).take j).foldl (vis (K0 f) m) c) wr) (fun i _ _=>d.2.length -(intOf i).toNat)
  case atStart=>exact⟨0,by omega,rfl,⟨e,by simpa using hJ⟩,by simpa using hc,Frm.refl _ _⟩
  case round=>
   obtain⟨j,hj,rfl,⟨⟨e1,oy⟩,ed,ij⟩⟩:=hrel;have c0':wr.cell? ⟨ga,b*2,none⟩=some (.int .i64 d.1):=by rw[←c0];simp[World.cell?,ij.block ga hN.arr.lt Jg]
   have c1':wr.cell? ⟨ga,b*2+1,none⟩=some (.slice (some ⟨g,o,none⟩) d.2.length cp):=by rw[←c1];simp[World.cell?,ij.block ga hN.arr.lt Jg]
   by_cases ai:j<d.2.length
   ·obtain⟨x0,x1,x2⟩:=aa wr j (ij.block g hg bp) ai
    have dm:(j:Int) <(d.2.length:Int):=by omega
    have cg:0≤(d.2.getD j e0).2.2:=by
     have gd:f.nodes b=some (2,d.2):=by rw[hd,←hk.1]
     exact hI.child_pos gd ai
    obtain⟨k,ow⟩:=eZ (kd d.2 j);have mi:(d.2.getD j e0).2.2=(k:Int):=by rw[←ow];unfold kd ch;omega
    rw[mi]at x2;have EV:k∈kids d:=by
     have gd:d=(2,d.2):=by rw[←hk.1]
     rw[gd,←ow];exact aP ai
    obtain⟨dk,Fw⟩:=hI.kid_live hd EV;have tg:k<f.cur.length:=hI.lt Fw;have Gq:(kids d).drop j=k ::(kids d).drop (j+1):=by
     rw[ie,List.drop_eq_getElem_cons (by simpa using ai)];congr 1;rw[←ow];unfold kd;rw[List.getElem_map,gD,gE ai];rfl
    rw[Gq,List.cons_append]at oy;have GI:(kids d).take (j+1)=(kids d).take j++[k]:=by
     rw[List.take_add_one];congr 1;have:(kids d)[j]?=some k:=by
      have:=congrArg List.head? Gq
      rw[List.head?_drop]at this;simpa using this
     rw[this];rfl
    have HV:Hid (((kids d).take (j+1)).foldl (vis (K0 f) m) c=vis (K0 f) m (((kids d).take j).foldl (vis (K0 f) m) c) k):=by
     show _=_
     rw[GI,List.foldl_append];rfl
    have ku:=oy.len;rw[←LV.out]at ku;have BJ:=oy.le hI k;have VY:=hK k;rw[←LV.out]at tg;generalize ((kids d).take j).foldl (vis (K0 f) m) c=cj1 at *;have mu:k<cj1.length:=by omega
    obtain⟨x,hx⟩:=eZ (cj1.getD k 0);have y0:=kJ ed mu;have z0:=ed.frozen k;have y1:=oJ ed mu (x+1);have Kw:(k:Int) <(c.length:Int):=by omega
    rw[hx]at BJ y0;have Nf:IntKind.i64.wrap (x+1)=x+1:=IntWalk.i64_in _ ⟨by omega,by omega⟩;have HI:Hid (gU cj1 k=cj1.set k (x+1)):=by show _=_;unfold gU;rw[hx]
    obtain⟨w2,ci⟩:=eZ (wr.setCell ⟨gc,k,none⟩ (.int .i64 (x+1)));rw[ci]at y1;have du:Frm (fun k=>k=gc) w w2:=ij.trans (by rw[←ci];exact Frm.set (S:=fun k=>k=gc) wr (p:=⟨gc,k,none⟩) rfl _);have Jp:k <(cj1.set k (x+1)).length:=by simpa using mu
    have y2:=kJ y1 Jp;have e5:(cj1.set k (x+1)).getD k 0=x+1:=by rw[eL,if_pos ⟨rfl,mu⟩]
    rw[e5]at y2;have sa:iX w2 ga ns nj f.nodes:=hN.frm du (fun g cs hg=>hg.type_ne hc (by decide)) Jg;have ah:(cj1.set k (x+1)).length=c.length:=by rw[List.length_set];omega
    by_cases h0:x=0
    ·have nu:=oy.first hI Fw (hx.trans h0)
     have hv:vis (K0 f) m cj1 k=mE (K0 f) m k (gU cj1 k):=by
      unfold vis;rw[if_pos (by rw[HI.out,e5,h0];rfl)]
     rw[hv]at HV;rw[HI.out]at HV nu;have ye:=ih k dk gc cj _ _ _ w2 (hk.2 k EV) Fw sa y1 nu;rw[ah]at ye;have yt:((x+1:Int) == 1)=true:=by rw[h0];rfl
     have Oy:Hid (Calls Tryz.prog 54 #[.slice (some ⟨ga,0,none⟩) ns.length (ns.length+nj.length),.int .i64 k,.slice (some ⟨gc,0,none⟩) c.length (c.length+cj.length)] w2 fun r w'=>r=.returned (.tuple #[])∧WkI f w gc cj ((kids d).drop (j+1)++P) (((kids d).take (j+1)).foldl (vis (K0 f) m) c) w'):=by
      refine ye.mono ?_;rintro r w3 ⟨rfl,k1,k2,k3⟩;rw[HV.out];exact⟨rfl,k1,k2,du.trans k3⟩
     clear aa oy nu y1 e5 BJ h0 HI sa hv ye HV ah hx ow mi Gq GI ie ku;go_wp2_with fail;refine Oy.out.mono ?_;rintro r w3 ⟨rfl,qn⟩;go_wp2;go_roundw
     case rel=>exact⟨j+1,by omega,by go_num,qn⟩
     case measure=>simp[intOf];omega
    ·have nu:=oy.more (by rw[←LV.out];exact tg) (by rw[hx];exact h0)
     have hv:vis (K0 f) m cj1 k=gU cj1 k:=by
      unfold vis;rw[if_neg (by rw[HI.out,e5];omega)]
     rw[hv]at HV;rw[HI.out]at HV nu;have yt:((x+1:Int) == 1)=false:=by rw[beq_eq_false_iff_ne];omega
     have HR:Hid (WkI f w gc cj ((kids d).drop (j+1)++P) (((kids d).take (j+1)).foldl (vis (K0 f) m) c) w2):=by
      show WkI _ _ _ _ _ _ _
      rw[HV.out];exact⟨⟨_,nu⟩,y1,du⟩
     clear aa oy nu y1 e5 BJ h0 HI sa hv HV ah hx ow mi Gq GI ie ku;go_wp2;go_roundw
     case rel=>exact⟨j+1,by omega,by go_num,HR.out⟩
     case measure=>simp[intOf];omega
   ·obtain rfl:j=d.2.length:=by omega
    have e1':(kids d).length=d.2.length:=by rw[ie];simp
    rw[List.drop_of_length_le (by omega),List.nil_append]at oy;rw[List.take_of_length_le (by omega),←HW.out]at oy ed;have HR:Hid (WkP f w gc cj P cW (.returned (.tuple #[])) wr):=⟨rfl,⟨e1,oy⟩,ed,ij⟩;clear aa oy ie;go_wp2;refine bodyPost_ret (v:=.tuple #[]) (by simp[results,Tryz.f54,go_sem]) rfl ?_;exact HR.out
structure SA where
 ga:Nat
 ns:List NV
 nj:List NV
 gr:Nat
 rj:List (Int×Int)
 cv:Value
 tv:Value
def aL(A:SA)(f:fZ):Array Value:=#[.int .i64 f.cur.length,.slice (some ⟨A.ga,0,none⟩) A.ns.length (A.ns.length+A.nj.length),.slice (some ⟨A.gr,0,none⟩) f.roots.length (f.roots.length+A.rj.length),.int .i64 f.next,.int .i64 f.gen,A.cv,A.tv]
structure SpV(w:World)(A:SA)(f:fZ):Prop where
 nds:iX w A.ga A.ns A.nj f.nodes
 ln:A.ns.length=f.cur.length
 rts:IsC w A.gr (yT.row (f.roots++A.rj)) 77
 rs:f.roots.length+A.rj.length≤maxLen
 com:y64.Sl w A.cv f.com
structure Sp(w:World)(S:Nat)(A:SA)(f:fZ):Prop where
 box:IsC w S (aL A f) 57
 v:SpV w A f
theorem SpV.frm{Z:Nat→Prop}{A:SA}(h:SpV w A f)(k:Frm Z w w')(hE:∀g cs t,(t=110∨t=108∨t=77∨t=2)→IsC w g cs t→¬Z g):SpV w' A f:=
 ⟨h.nds.frm k (fun g cs hg=>hE g cs _ (.inl rfl) hg) (hE _ _ _ (.inr (.inl rfl)) h.nds.arr),h.ln,h.rts.frm k (hE _ _ _ (.inr (.inr (.inl rfl))) h.rts),h.rs,h.com.frm k fun g cs hg=>hE g cs _ (.inr (.inr (.inr rfl))) hg⟩
theorem SpV.below{A:SA}(h:SpV w A f)(k:Bl w w'):SpV w' A f:=h.frm (Frm.of_below (S:=fun _=>False) k) fun _ _ _ _ _=>id
theorem Sp.below{A:SA}(h:Sp w S A f)(k:Bl w w'):Sp w' S A f:=⟨h.box.of (k.block _ h.box.lt),h.v.below k⟩
theorem Sp.cells{A:SA}(h:Sp w S A f):w.cell? ⟨S,0,none⟩=some (.int .i64 f.cur.length)∧w.cell? ⟨S,1,none⟩=some (.slice (some ⟨A.ga,0,none⟩) A.ns.length (A.ns.length+A.nj.length))∧w.cell? ⟨S,2,none⟩=some (.slice (some ⟨A.gr,0,none⟩) f.roots.length (f.roots.length+A.rj.length))∧w.cell? ⟨S,3,none⟩=some (.int .i64 f.next)∧w.cell? ⟨S,4,none⟩=some (.int .i64 f.gen)∧w.cell? ⟨S,5,none⟩=some A.cv∧w.cell? ⟨S,6,none⟩=some A.tv:=by
 refine⟨?_,?_,?_,?_,?_,?_,?_⟩<;>rw[h.box.cell]<;>rfl
theorem SpV.root{A:SA}(h:SpV w A f)(ht:t<f.roots.length):w.cell? ⟨A.gr,t*2,none⟩=some (.int .i64 (f.roots.getD t (0,0)).1)∧w.cell? ⟨A.gr,t*2+1,none⟩=some (.int .i64 (f.roots.getD t (0,0)).2):=by
 have hx:∀j,j<2→w.cell? ⟨A.gr,t*2+j,none⟩=(aT (f.roots.getD t (0,0)))[j]?:=fun j hj=>by
  rw[h.rts.cell];have:=yT.at (f.roots++A.rj) (i:=t) (j:=j) (by simp;omega) hj;have e2:(f.roots++A.rj).getD t yT.z=f.roots.getD t (0,0):=by rw[cM,if_pos ht];rfl
  rw[e2]at this;exact this
 exact⟨hx 0 (by omega),hx 1 (by omega)⟩
structure CuI(f:fZ)(w:World)(B gc:Nat)(cj:List Int)(P:List Nat)(c':List Int)(w':World):Prop where
 j:∃e',J f (rc f.roots) c' e' P
 c:IsC w' gc (y64.row (c'++cj)) 2
 frm:Below B w w'
theorem iD(hI:IC f)(hK:∀x,cu f x≤1000000)(hE:∀b d,f.nodes b=some d→d.2.length≤10)(w:World)(S:Nat)(A:SA)(h:Sp w S A f)(jr:f.roots.length≤100):
  Calls Tryz.prog 33 #[.pointer (some ⟨S,0,none⟩)] w fun r w'=>∃u,r=.returned u∧y64.Own w.heap.size w' u f.cur∧Bl w w':=by
 obtain⟨ht,hh⟩:=hI.ht;obtain⟨s0,s1,s2,_⟩:=h.cells;have h8:=hI.n8;have h5:=hI.n512;have HC:=aA (aJI hI hh (K:=K0 f) fun b d hd=>aKU b d hd);have qh:=J.start f;unfold aMO at HC;go_enter Tryz.func33,Tryz.ntmps33;go_wp2_with fail;refine(pM f.cur.length h5 w).mono ?_;rintro r w1 ⟨u,rfl,⟨ag,cj,rfl,d5,ll⟩,ao⟩;obtain⟨gc,rfl⟩:∃g,ag=some g:=by
  cases ag with
  | none=>have:=(d5.nil rfl).1;have:=congrArg List.length this;rw[List.length_replicate,List.length_nil]at this;omega
  | some g=>exact⟨g,rfl⟩
 have xr:IsC w1 gc (y64.row (List.replicate f.cur.length 0++cj)) 2:=d5.arr gc rfl;have bp:=ll gc rfl;have lv:=d5.small;simp only[adr,Option.map_some,List.length_replicate]at lv ⊢;have P0:=h.box.lt;have HZ:Hid (List.replicate f.cur.length (0:Int)=List.replicate f.cur.length 0):=rfl;generalize List.replicate f.cur.length (0:Int)=zs at *;have hN:=h.v.nds;have HN:=aA hN;have HR:=aA fun(w':World) (hb:Bl w w')=>(h.below hb).v;have HB:=aA fun(w':World) (hb:Bl w w')=>(h.below hb).cells;clear d5 ll h8;go_wp2;go_loopw [4,5] (fun i _ wr=>∃j:Nat,j≤f.roots.length∧i=.int .i64 j∧CuI f w w.heap.size gc cj (((f.roots.map fun r=>r.2.toNat)).drop j) (((f.roots.map fun r=>r.2.toNat).take j).foldl (fun c r=>vis (K0 f) (ht r) c r) zs) wr) (fun i _ _=>f.roots.length -(intOf i).toNat)
 case atStart=>exact⟨0,by omega,rfl,⟨_,by simpa using qh⟩,by simpa using xr,ao⟩
 case round=>
  obtain⟨j,hj,rfl,⟨⟨e1,oy⟩,ed,ij⟩⟩:=hrel;obtain⟨t0,t1,t2,_⟩:=HB.out wr ij;have y8:=(HR.out wr ij).nds;by_cases ai:j<f.roots.length
  ·obtain⟨r0,r1⟩:=(HR.out wr ij).root ai
   have dm:(j:Int) <(f.roots.length:Int):=by omega
   obtain⟨k,ow⟩:=eZ (aB f j);have Ec:=aO ai;have mi:(f.roots.getD j (0,0)).2=(k:Int):=by rw[←ow];unfold aB;have:=(hI.rb _ Ec).1;omega
   rw[mi]at r1;obtain⟨dk,Fw⟩:=hI.root_live Ec;rw[mi]at Fw;simp only[Int.toNat_natCast]at Fw;have tg:=hI.lt Fw;have xz:(f.roots.map fun r=>r.2.toNat)[j]?=some k:=by
    rw[List.getElem?_map,gE ai];rw[←ow];unfold aB;rw[gD,gE ai];rfl
   have Gq:(f.roots.map fun r=>r.2.toNat).drop j=k ::(f.roots.map fun r=>r.2.toNat).drop (j+1):=by
    obtain⟨hx,hy⟩:=List.getElem?_eq_some_iff.1 xz;rw[List.drop_eq_getElem_cons hx,hy]
   have GI:(f.roots.map fun r=>r.2.toNat).take (j+1)=(f.roots.map fun r=>r.2.toNat).take j++[k]:=by
    rw[List.take_add_one,xz];rfl
   rw[Gq]at oy;have HV:Hid (((f.roots.map fun r=>r.2.toNat).take (j+1)).foldl (fun c r=>vis (K0 f) (ht r) c r) zs=vis (K0 f) (ht k) (((f.roots.map fun r=>r.2.toNat).take j).foldl (fun c r=>vis (K0 f) (ht r) c r) zs) k):=by
    show _=_
    rw[GI,List.foldl_append];rfl
   have ku:=oy.len;have BJ:=oy.le hI k;have VY:=hK k;generalize ((f.roots.map fun r=>r.2.toNat).take j).foldl (fun c r=>vis (K0 f) (ht r) c r) zs=c1 at *;have mu:k<c1.length:=by omega
   obtain⟨x,hx⟩:=eZ (c1.getD k 0);have y0:=kJ ed mu;have z0:=ed.frozen k;have y1:=oJ ed mu (x+1);have Kw:(k:Int) <(f.cur.length:Int):=by omega
   rw[hx]at BJ y0;have Nf:IntKind.i64.wrap (x+1)=x+1:=IntWalk.i64_in _ ⟨by omega,by omega⟩;have HI:Hid (gU c1 k=c1.set k (x+1)):=by show _=_;unfold gU;rw[hx]
   obtain⟨w2,ci⟩:=eZ (wr.setCell ⟨gc,k,none⟩ (.int .i64 (x+1)));rw[ci]at y1;have du:Bl w w2:=ij.trans (by rw[←ci];exact(bQ _ wr).setCell (p:=⟨gc,k,none⟩) bp _);have Jp:k <(c1.set k (x+1)).length:=by simpa using mu
   have y2:=kJ y1 Jp;have e5:(c1.set k (x+1)).getD k 0=x+1:=by rw[eL,if_pos ⟨rfl,mu⟩]
   rw[e5]at y2;have sa:=(HR.out w2 du).nds;obtain⟨v0,v1,v2,_⟩:=HB.out w2 du;have ah:(c1.set k (x+1)).length=f.cur.length:=by rw[List.length_set];omega
   by_cases h0:x=0
   ·have nu:=oy.first hI Fw (hx.trans h0)
    have hv:vis (K0 f) (ht k) c1 k=mE (K0 f) (ht k) k (gU c1 k):=by
     unfold vis;rw[if_pos (by rw[HI.out,e5,h0];rfl)]
    rw[hv]at HV;rw[HI.out]at HV nu;have ye:=aBG hI hh hK hE A.ga A.ns A.nj (ht k) k dk gc cj _ _ _ w2 rfl Fw sa y1 nu;rw[ah]at ye;have yt:((x+1:Int) == 1)=true:=by rw[h0];rfl
    have Oy:Hid (Calls Tryz.prog 54 #[.slice (some ⟨A.ga,0,none⟩) A.ns.length (A.ns.length+A.nj.length),.int .i64 k,.slice (some ⟨gc,0,none⟩) f.cur.length (f.cur.length+cj.length)] w2 fun r w'=>r=.returned (.tuple #[])∧CuI f w w.heap.size gc cj (((f.roots.map fun r=>r.2.toNat)).drop (j+1)) (((f.roots.map fun r=>r.2.toNat).take (j+1)).foldl (fun c r=>vis (K0 f) (ht r) c r) zs) w'):=by
     refine ye.mono ?_;rintro r w3 ⟨rfl,k1,k2,k3⟩;rw[HV.out];exact⟨rfl,k1,k2,du.trans (k3.below du.size fun k e=>by rw[e];exact bp)⟩
    clear oy nu y1 e5 BJ h0 HI sa hv ye HV ah hx ow mi Gq GI ku xz y8;go_wp2_with fail;refine Oy.out.mono ?_;rintro r w3 ⟨rfl,qn⟩;go_wp2;go_roundw
    case rel=>exact⟨j+1,by omega,by go_num,qn⟩
    case measure=>simp[intOf];omega
   ·have nu:=oy.more (tg) (by rw[hx];exact h0)
    have hv:vis (K0 f) (ht k) c1 k=gU c1 k:=by
     unfold vis;rw[if_neg (by rw[HI.out,e5];omega)]
    rw[hv]at HV;rw[HI.out]at HV nu;have yt:((x+1:Int) == 1)=false:=by rw[beq_eq_false_iff_ne];omega
    have HR:Hid (CuI f w w.heap.size gc cj (((f.roots.map fun r=>r.2.toNat)).drop (j+1)) (((f.roots.map fun r=>r.2.toNat).take (j+1)).foldl (fun c r=>vis (K0 f) (ht r) c r) zs) w2):=by
     show CuI _ _ _ _ _ _ _ _
     rw[HV.out];exact⟨⟨_,nu⟩,y1,du⟩
    clear oy nu y1 e5 BJ h0 HI sa hv HV ah hx ow mi Gq GI ku xz y8;go_wp2;go_roundw
    case rel=>exact⟨j+1,by omega,by go_num,HR.out⟩
    case measure=>simp[intOf];omega
  ·obtain rfl:j=f.roots.length:=by omega
   rw[List.take_of_length_le (by simp),HC.out]at ed;have HX:Hid (y64.Own w.heap.size wr (.slice (some ⟨gc,0,none⟩) f.cur.length (f.cur.length+cj.length)) f.cur):=⟨some gc,cj,rfl,⟨fun g e=>(by cases e;exact ed),fun e=>(by cases e),lv⟩,fun g e=>(by cases e;exact bp)⟩;clear ed oy y8;go_wp2;go_ret;exact⟨_,rfl,HX.out,ij⟩
theorem mW{l:List Int}(h:y64.Sl w u l)(hl:0<l.length):∃g o c,u=.slice (some ⟨g,o,none⟩) l.length c∧g<w.heap.size∧(∃cs,IsC w g cs 2)∧∀(w':World) (i:Nat),(w'.heap[g]?=w.heap[g]?)→i<l.length→w'.cell? ⟨g,o+i,none⟩=some (.int .i64 (l.getD i 0)):=by
 rcases h with⟨rfl,rfl⟩ | ⟨g,o,cap,xs,rfl,h1,h2,h3⟩
 ·simp at hl
 ·obtain⟨g',o',c',e,hg,hc⟩:=(show y64.Sl w (.slice (some ⟨g,o*y64.n,none⟩) l.length cap) l from .inr ⟨g,o,cap,xs,rfl,h1,h2,h3⟩).at hl
  cases e
  refine⟨g,_,_,rfl,hg,⟨_,h1⟩,fun w' i he hi=>?_⟩;have hw:∀k,w'.cell? ⟨g,k,none⟩=w.cell? ⟨g,k,none⟩:=fun k=>by simp[World.cell?,he]
  have:=hc i 0 hi (by decide)
  have e:o*y64.n+i*y64.n+0=o*y64.n+i:=by show o*1+i*1+0=o*1+i;omega
  rw[e]at this;rw[hw];exact this
theorem aBX(h:∀x,x<b→frB f gk x=false)(hb:frB f gk b=true)(hl:b<f.cur.length):mD f gk=(b:Int):=by
 unfold mD;have:(List.range f.cur.length).find? (frB f gk)=some b:=by
  rw[List.find?_range_eq_some];exact⟨hb,by simpa using hl,fun x hx=>by rw[h x hx];rfl⟩
 rw[this]
theorem aBW(h:∀x,x<f.cur.length→frB f gk x=false):mD f gk=-1:=by
 unfold mD;have:(List.range f.cur.length).find? (frB f gk)=none:=by
  rw[List.find?_eq_none];intro x hx;rw[h x (List.mem_range.1 hx)];simp
 rw[this]
theorem mP(hI:IC f)(hK:∀x,cu f x≤1000000)(hE:∀b d,f.nodes b=some d→d.2.length≤10)(w:World)(S:Nat)(A:SA)(h:Sp w S A f)(jr:f.roots.length≤100)(gk:Int):
  Calls Tryz.prog 88 #[.pointer (some ⟨S,0,none⟩),.int .i64 gk] w fun r w'=>r=.returned (.int .i64 (mD f gk))∧Bl w w':=by
 have h8:=hI.n8;have h5:=hI.n512;go_enter Tryz.func88,Tryz.ntmps88;go_wp2_with fail;refine(iD hI hK hE w S A h jr).mono ?_;rintro r w1 ⟨u,rfl,hu,ao⟩;obtain⟨gc,oc,cc,rfl,bp,_,aa⟩:=mW hu.sl (by omega);have h1:=h.below ao;obtain⟨s0,_,_,_,_,s5,_⟩:=h1.cells;obtain⟨gm,om,cm,pq,AK,_,xo⟩:=mW h1.v.com (by rw[hI.len];omega);rw[pq]at s5;have HL:Hid (f.com.length=f.cur.length):=hI.len;clear pq hu;go_wp2;go_loopw [6] (fun i wr=>∃k:Nat,2≤k∧k≤f.cur.length∧i=.int .i64 k∧Is2 (.bool false) (.bool false) wr w1∧Hid (∀x,x<k→frB f gk x=false)) (fun i _=>f.cur.length -(intOf i).toNat)
 case atStart=>exact⟨2,by omega,by omega,rfl,⟨rfl,rfl⟩,fun x hx=>by unfold frB;rw[decide_eq_false (by omega)];simp⟩
 case round=>
  obtain⟨k,uh,tg,rfl,⟨_,rfl⟩,ay⟩:=hrel;by_cases ai:k<f.cur.length
  ·have x0:=aa wr k rfl ai
   have x1:=xo wr k rfl (by rw[HL.out];exact ai);have lq:(k:Int) <(f.cur.length:Int):=by omega
   have EV:(k:Int) <(f.com.length:Int):=by rw[HL.out];omega
   have HF:Hid (frB f gk k=(decide (2≤k) && (f.cur.getD k 0 == 0) && (f.com.getD k 0 == 0) && !((k:Int) == gk))):=rfl;rw[decide_eq_true uh]at HF;generalize f.cur.getD k 0=x at *;generalize f.com.getD k 0=y at *;have HN:Hid (frB f gk k=false→∀x,x<k+1→frB f gk x=false):=fun q z hz=>by
    by_cases e:z=k
    ·rw[e];exact q
    ·exact ay.out z (by omega)
   clear aa xo;cases ex:(x == 0)with
   | false=>
    rw[ex]at HF;go_wp2;go_roundw
    case rel=>exact⟨k+1,by omega,by omega,by go_num,⟨rfl,rfl⟩,HN.out (by rw[HF.out];rfl)⟩
    case measure=>simp[intOf];omega
   | true=>
    cases ey:(y == 0)with
    | false=>
     rw[ex,ey]at HF;go_wp2;go_roundw
     case rel=>exact⟨k+1,by omega,by omega,by go_num,⟨rfl,rfl⟩,HN.out (by rw[HF.out];rfl)⟩
     case measure=>simp[intOf];omega
    | true=>
     cases eh:((k:Int) == gk)with
     | true=>
      rw[ex,ey,eh]at HF;go_wp2;go_roundw
      case rel=>exact⟨k+1,by omega,by omega,by go_num,⟨rfl,rfl⟩,HN.out (by rw[HF.out];rfl)⟩
      case measure=>simp[intOf];omega
     | false=>
      rw[ex,ey,eh]at HF;have HT:=aA (aBX ay.out (by rw[HF.out];rfl) ai);go_wp2;go_ret;exact⟨by rw[HT.out];rfl,ao⟩
  ·obtain rfl:k=f.cur.length:=by omega
   have HT:=aA (aBW ay.out);clear aa xo;go_wp2;go_ret;exact⟨by rw[HT.out];rfl,ao⟩
def set2(w:World)(g q:Nat)(x:NV):World:=(w.setCell ⟨g,q*2,none⟩ (.int .i64 x.1)).setCell ⟨g,q*2+1,none⟩ (.slice x.2.1 x.2.2.1 x.2.2.2)
theorem eC(w:World)(g q:Nat)(x:NV):Frm (fun k=>k=g) w (set2 w g q x):=(Frm.set (S:=fun k=>k=g) w (p:=⟨g,q*2,none⟩) rfl _).trans (Frm.set (S:=fun k=>k=g) _ (p:=⟨g,q*2+1,none⟩) rfl _)
theorem aMH(l:List NV)(q:Nat)(x:NV)(h:q<l.length):((yN.row l).setIfInBounds (q*2) (.int .i64 x.1)).setIfInBounds (q*2+1) (.slice x.2.1 x.2.2.1 x.2.2.2)=yN.row (l.set q x):=by
 unfold Ely.row;rw[List.setIfInBounds_toArray,List.setIfInBounds_toArray];congr 1;induction l generalizing q with
 | nil=>simp at h
 | cons a l ih=>
  cases q with
  | zero=>rfl
  | succ q=>
   simp only[List.flatMap_cons,List.set_cons_succ];have e:yN.cell a=[.int .i64 a.1,.slice a.2.1 a.2.2.1 a.2.2.2]:=rfl;rw[e];have e1:(q+1)*2=q*2+1+1:=by omega
   rw[e1];show [_,_]++((l.flatMap yN.cell).set (q*2) _).set (q*2+1) _=_
   rw[ih q (by simpa using h)]
theorem iX.set2(h:iX w ga ns nj nodes)(hq:q<ns.length)(hx:NdR w x d):iX (Go.Proofs.YtaahkgkdpnnhhaaGreat.set2 w ga q x) ga (ns.set q x) nj (upd nodes q (some d)):=by
 have hF:=eC w ga q x;have hS:∀g cs,IsC w g cs 110→¬g=ga:=fun g cs hg=>hg.type_ne h.arr (by decide);refine⟨?_,fun b d' hd=>?_,by simpa using h.small⟩
 ·have:=(h.arr.set (q*2) (.int .i64 x.1)).set (q*2+1) (.slice x.2.1 x.2.2.1 x.2.2.2)
  rw[aMH _ _ _ (by simp;omega),List.set_append_left _ _ hq]at this;exact this
 ·rw[List.length_set,bB _ _ _ _ _ hq]
  by_cases e:b=q
  ·rw[e,aD]at hd
   cases hd
   rw[if_pos e];exact⟨by rw[e];exact hq,hx.frm hF hS⟩
  ·rw[aC _ _ e]at hd
   rw[if_neg e];exact⟨(h.nd b d' hd).1,(h.nd b d' hd).2.frm hF hS⟩
def SA.setN(A:SA)(q:Nat)(x:NV):SA:={A with ns:=A.ns.set q x}
theorem Sp.set2{A:SA}(h:Sp w S A f)(hq:q<f.cur.length)(hx:NdR w x d):Sp (Go.Proofs.YtaahkgkdpnnhhaaGreat.set2 w A.ga q x) S (A.setN q x) (setN f q d):=by
 have hF:=eC w A.ga q x;have hg:=h.v.nds.arr;refine⟨?_,h.v.nds.set2 (by rw[h.v.ln];exact hq) hx,by simp[SA.setN,h.v.ln,Fo.setN],h.v.rts.frm hF (h.v.rts.type_ne hg (by decide)),h.v.rs,h.v.com.frm hF fun g cs k=>k.type_ne hg (by decide)⟩;have:=h.box.frm hF (h.box.type_ne hg (by decide));have e:aL (A.setN q x) (Fo.setN f q d)=aL A f:=by simp[aL,SA.setN,Fo.setN]
 rw[e];exact this
theorem Sp.sub{A:SA}{g:fZ}(h:Sp w S A f)(hn:∀b d,g.nodes b=some d→f.nodes b=some d)(hl:g.cur.length=f.cur.length)(hr:g.roots=f.roots)(h1:g.next=f.next)(h2:g.gen=f.gen)(h3:g.com=f.com):Sp w S A g:=by
 refine⟨?_,h.v.nds.sub hn,by rw[hl];exact h.v.ln,by rw[hr];exact h.v.rts,by rw[hr];exact h.v.rs,by rw[h3];exact h.v.com⟩;have e:aL A g=aL A f:=by unfold aL;rw[hl,hr,h1,h2]
 rw[e];exact h.box
theorem jD(w:World)(g q:Nat)(v0 v1:Value)(h:b≠g∨(o≠q*2∧o≠q*2+1)):((w.setCell ⟨g,q*2,none⟩ v0).setCell ⟨g,q*2+1,none⟩ v1).drew.cell? ⟨b,o,none⟩=w.cell? ⟨b,o,none⟩:=by
 show((w.setCell ⟨g,q*2,none⟩ v0).setCell ⟨g,q*2+1,none⟩ v1).cell? ⟨b,o,none⟩=_
 rw[World.cell?_setCell_other,World.cell?_setCell_other]
 ·intro e;simp only[Addr.mk.injEq]at e;omega
 ·intro e;simp only[Addr.mk.injEq]at e;omega
theorem Sp.drew{A:SA}(h:Sp w S A f):Sp w.drew S A f:=h.below (bQ _ w).drew
theorem Sp.wr{A:SA}(h:Sp w S A f)(hq:q<f.cur.length):∃k0 k1,w.cell? ⟨A.ga,q*2,none⟩=some k0∧w.cell? ⟨A.ga,q*2+1,none⟩=some k1∧w.frozen? ⟨A.ga,q*2,none⟩=false∧w.frozen? ⟨A.ga,q*2+1,none⟩=false∧(q:Int) <(A.ns.length:Int):=by
 have hl:=h.v.ln;have hs:(yN.row (A.ns++A.nj)).size=(A.ns++A.nj).length*2:=yN.size _;rw[lP]at hs;refine⟨(yN.row (A.ns++A.nj))[q*2]'(by omega),(yN.row (A.ns++A.nj))[q*2+1]'(by omega),?_,?_,h.v.nds.arr.frozen _,h.v.nds.arr.frozen _,by omega⟩
 ·rw[h.v.nds.arr.cell,Array.getElem?_eq_getElem]
 ·rw[h.v.nds.arr.cell,Array.getElem?_eq_getElem]
structure ZhP(w:World)(S:Nat)(A:SA)(f:fZ)(p:Nat)(d:Nd)(r:Ending)(w':World):Prop where
 own:own f p→r=.returned (.int .i64 p)∧Bl w w'
 no:¬Fo.own f p→aF f=0→r=.returned (.int .i64 (-1))∧Bl w w'
 yes:¬Fo.own f p→aF f≠0→r=.returned (.int .i64 (aF f))∧Sp w' S (A.setN (aF f) (A.ns.getD p nv0)) (setN f (aF f) d)∧Frm (fun k=>k=A.ga) w w'
theorem nQ(hI:IC f)(hE:∀b d,f.nodes b=some d→d.2.length≤10)(w:World)(S:Nat)(A:SA)(h:Sp w S A f)(jr:f.roots.length≤16)(p:Nat)(d:Nd)(hd:f.nodes p=some d):
  Calls Tryz.prog 87 #[.pointer (some ⟨S,0,none⟩),.int .i64 p] w (ZhP w S A f p d):=by
 have hK:=hI.counts jr hE;have h8:=hI.n8;have qf:=hI.lt hd;obtain⟨_,s1,_,_,_,s5,_⟩:=h.cells;obtain⟨gm,om,cm,pq,AK,_,xo⟩:=mW h.v.com (by rw[hI.len];omega);rw[pq]at s5;have Bq:(p:Int) <(f.com.length:Int):=by rw[hI.len];omega
 have x0:=xo w p rfl (by rw[hI.len];exact qf);have HC:Hid (co f p=f.com.getD p 0):=rfl;have HU:Hid (cu f p=f.cur.getD p 0):=rfl;have Cv:=iD hI hK hE w S A h (by omega);have HT:=aA (mT f);have GI:Hid (∀w',Bl w w'→Calls Tryz.prog 88 #[.pointer (some ⟨S,0,none⟩),.int .i64 (-1)] w' fun r w2=>r=.returned (.int .i64 (mD f (-1)))∧Bl w w2):=fun w' hb=>
  (mP hI hK hE w' S A (h.below hb) (by omega) (-1)).mono fun r w2 hw=>⟨hw.1,hb.trans (hw.2.mono hb.size)⟩
 clear xo pq;obtain⟨y,hy⟩:=eZ (f.com.getD p 0);rw[hy]at x0;have HO:Hid (Fo.own f p↔f.cur.getD p 0=1∧y=0):=by rw[←hy];exact Iff.rfl
 clear hy HC HU;obtain⟨x,hx⟩:=eZ (f.cur.getD p 0);have SQ:Hid (Calls Tryz.prog 33 #[.pointer (some ⟨S,0,none⟩)] w fun r w'=>∃g o c,r=.returned (.slice (some ⟨g,o,none⟩) f.cur.length c)∧w'.cell? ⟨g,o+p,none⟩=some (.int .i64 x)∧Bl w w'):=by
  refine Cv.mono ?_;rintro r w1 ⟨u,rfl,hu,ao⟩;obtain⟨gc,oc,cc,rfl,bp,_,aa⟩:=mW hu.sl (by omega);have:=aa w1 p rfl qf;rw[hx]at this;exact⟨gc,oc,cc,rfl,this,ao⟩
 rw[hx]at HO;clear hx Cv;have YR:(p:Int) <(f.cur.length:Int):=by omega
 have HS:=aA fun(w':World) (hb:Bl w w')=>h.below hb;go_enter Tryz.func87,Tryz.ntmps87;by_cases ho:x=1∧y=0
 ·have Sa:Hid (Fo.own f p):=HO.out.2 ho
  obtain⟨rfl,rfl⟩:=ho;go_wp2_with fail;refine SQ.out.mono ?_;rintro r w1 ⟨gc,oc,cc,rfl,z0,ao⟩;go_wp2;go_ret;exact⟨fun _=>⟨rfl,ao⟩,fun q=>absurd Sa.out q,fun q=>absurd Sa.out q⟩
 ·have HN:Hid (¬Fo.own f p):=fun q=>ho (HO.out.1 q)
  by_cases ey:y=0
  case' pos=>
   have ex:(x == 1)=false:=by rw[beq_eq_false_iff_ne];exact fun q=>ho ⟨q,ey⟩
   clear HO;subst ey;clear ho;go_wp2_with fail;refine SQ.out.mono ?_;rintro r w1 ⟨gc,oc,cc,rfl,z0,ao⟩;go_wp2_with fail
  case' neg=>
   have ey':(y == 0)=false:=by simpa using ey
   have ao:Bl w w:=bQ _ _;clear HO ho ey;obtain⟨w1,bh⟩:∃w1,w1=w:=⟨_,rfl⟩;go_wp2_with fail
  all_goals (
   refine(GI.out _ ao).mono ?_;rintro r w2 ⟨rfl,ba⟩;rw[HT.out];by_cases hl:aF f=0
   ·rw[if_pos hl]
    have HL:=aA hl;clear hl;go_wp2;go_ret;exact⟨fun q=>absurd q HN.out,fun _ _=>⟨rfl,ba⟩,fun _ q=>absurd HL.out q⟩
   ·rw[if_neg hl]
    obtain⟨_,h9,am,_⟩:=aR hl;have ax:=HS.out w2 ba;obtain⟨_,Aw,_⟩:=ax.cells;obtain⟨a,c,eS,hb,AW,c0,c1,_⟩:=ax.v.nds.at hd;obtain⟨k0,k1,gp,fw,jh,gh,Wh⟩:=ax.wr h9;have MA:=(ax.v.nds.nd p d hd).2;have cy:=ax.set2 h9 MA;have av:p≠aF f:=fun e=>by have:=hI.cu_pos hd;rw[e]at this;omega
    have bu:=(Frm.of_below (S:=fun k=>k=A.ga) ba).trans (eC w2 A.ga (aF f) (A.ns.getD p nv0));rw[AW]at cy bu;have Wx:(p:Int) <(A.ns.length:Int):=by rw[h.v.ln];omega
    have HR:Hid (∀w3,w3=(set2 w2 A.ga (aF f) (d.1,a,d.2.length,c)).drew→ZhP w S A f p d (.returned (.int .i64 (aF f))) w3):=fun w3 e=>by
     rw[e];exact⟨fun q=>absurd q HN.out,fun _ q=>absurd q hl,fun _ _=>⟨rfl,by rw[AW];exact cy.drew,bu.trans (Frm.drew _ _)⟩⟩
    obtain⟨q,hq⟩:=eZ (aF f);rw[hq]at jh gh gp fw av Wh HR;rw[hq];clear cy bu MA ax AW hl am h9 hq;have wl:S≠A.ga:=h.box.type_ne h.v.nds.arr (by decide);have O0:Hid (∀v0 v1,((w2.setCell ⟨A.ga,q*2,none⟩ v0).setCell ⟨A.ga,q*2+1,none⟩ v1).drew.cell? ⟨S,1,none⟩=some (.slice (some ⟨A.ga,0,none⟩) A.ns.length (A.ns.length+A.nj.length))∧((w2.setCell ⟨A.ga,q*2,none⟩ v0).setCell ⟨A.ga,q*2+1,none⟩ v1).drew.cell? ⟨A.ga,p*2,none⟩=some (.int .i64 d.1)∧((w2.setCell ⟨A.ga,q*2,none⟩ v0).setCell ⟨A.ga,q*2+1,none⟩ v1).drew.cell? ⟨A.ga,p*2+1,none⟩=some (.slice a d.2.length c)):=fun v0 v1=>by
     rw[jD _ _ _ _ _ (.inl wl),jD _ _ _ _ _ (.inr ⟨by omega,by omega⟩),jD _ _ _ _ _ (.inr ⟨by omega,by omega⟩)];exact⟨Aw,c0,c1⟩
    go_wp2
    go_region_held3 (fun W=>W.cell? ⟨S,1,none⟩=some (.slice (some ⟨A.ga,0,none⟩) A.ns.length (A.ns.length+A.nj.length))∧W.cell? ⟨A.ga,p*2,none⟩=some (.int .i64 d.1)∧W.cell? ⟨A.ga,p*2+1,none⟩=some (.slice a d.2.length c)) (first | exact O0.out _ _ | go_keep) ((fail))
    go_wp2
    go_ret
    exact HR.out _ rfl)
theorem Ely.Sl.dropN{Y:Ely α}{l:List α}(h:Y.Sl w (.slice (some ⟨g,o,none⟩) len cap) l)(k:Nat)(hk:k≤l.length)(c:Nat):Y.Sl w (.slice (some ⟨g,o+k*Y.n,none⟩) (l.length-k) c) (l.drop k):=by
 rcases h with⟨e,_⟩ | ⟨g',o',cap',xs,e,h1,h2,h3⟩
 ·cases e
 ·cases e
  refine .inr ⟨g,o'+k,c,xs,by rw[Nat.add_mul,List.length_drop],h1,by rw[List.length_drop];omega,?_⟩;rw[List.length_drop,←List.drop_drop];conv=>rhs;rw[←h3];rw[List.drop_take]
theorem Ely.Sl.takeN{Y:Ely α}{l:List α}(h:Y.Sl w (.slice (some ⟨g,o,none⟩) len cap) l)(k:Nat)(hk:k≤l.length)(c:Nat):Y.Sl w (.slice (some ⟨g,o,none⟩) k c) (l.take k):=by
 rcases h with⟨e,_⟩ | ⟨g',o',cap',xs,e,h1,h2,h3⟩
 ·cases e
 ·cases e
  refine .inr ⟨g,o',c,xs,by rw[List.length_take,Nat.min_eq_left hk],h1,by rw[List.length_take];omega,?_⟩;rw[List.length_take,Nat.min_eq_left hk];conv=>rhs;rw[←h3];rw[List.take_take,Nat.min_eq_left hk]
theorem Ely.Own.nv{l:List E3}(h:yE.Own b w u l)(k:Int):∃x:NV,u=.slice x.2.1 x.2.2.1 x.2.2.2∧x.1=k∧NdR w x (k,l):=by
 obtain⟨a,junk,rfl,h1,h2⟩:=h;exact⟨(k,adr a,l.length,l.length+junk.length),rfl,rfl,rfl,h1.sl,Nat.le_add_right _ _⟩
theorem bU{W:World}{x v0 v1:Value}{B:Nat}(av:B≠g)(h:W.cell? ⟨B,o,none⟩=some x):((W.setCell ⟨g,q*2,none⟩ v0).setCell ⟨g,q*2+1,none⟩ v1).drew.cell? ⟨B,o,none⟩=some x:=by
 rw[jD _ _ _ _ _ (.inl av)];exact h
structure SaS(A A':SA):Prop where
 ga:A'.ga=A.ga
 nj:A'.nj=A.nj
 gr:A'.gr=A.gr
 rj:A'.rj=A.rj
 cv:A'.cv=A.cv
 tv:A'.tv=A.tv
theorem SaS.refl(A:SA):SaS A A:=⟨rfl,rfl,rfl,rfl,rfl,rfl⟩
theorem SaS.trans{A B C:SA}(h:SaS A B)(k:SaS B C):SaS A C:=⟨k.ga.trans h.ga,k.nj.trans h.nj,k.gr.trans h.gr,k.rj.trans h.rj,k.cv.trans h.cv,k.tv.trans h.tv⟩
theorem SaS.setN(A:SA)(q:Nat)(x:NV):SaS A (A.setN q x):=⟨rfl,rfl,rfl,rfl,rfl,rfl⟩
structure Zt(w:World)(S:Nat)(A:SA)(g:fZ)(w':World):Prop where
 ex:∃A',Sp w' S A' g∧SaS A A'
 frm:Frm (fun k=>k=A.ga) w w'
theorem rZ(w:World)(S:Nat)(A:SA)(h:Sp w S A f)(b q:Nat)(k:Int)(es:List E3)(hd:f.nodes b=some (k,es))(h5:es.length=5)(hb:b<f.cur.length)(hq:q<f.cur.length)(mh:b≠q):
  Calls Tryz.prog 89 #[.pointer (some ⟨S,0,none⟩),.int .i64 b,.int .i64 q] w fun r w'=>r=.returned (.tuple #[])∧Zt w S A (setN (setN f q (k,es.drop 3)) b (k,es.take 3)) w':=by
 have sm:=gR;obtain⟨_,s1,_⟩:=h.cells;obtain⟨a,c,eS,d9,AW,c0,c1,pp⟩:=h.v.nds.at hd;obtain⟨g,o,cp',he,hg,_⟩:=dZ eS (by simp only;omega);cases he;have E6:(b:Int) <(A.ns.length:Int):=by omega
 have T5:(q:Int) <(A.ns.length:Int):=by rw[h.v.ln];omega
 simp only at c0 c1 pp eS
 obtain⟨B,hB⟩:=eZ (w.heap.size);obtain⟨w0,mz⟩:=eZ (w.alloc (.cells #[.int .i64 k,.slice (some ⟨g,o,none⟩) 5 c] 108));rw[h5]at pp;have Ko:¬c=3:=by omega
 have JC:(3:Int)≤(c:Int):=by omega
 have EM:yE.Sl w (.slice (some ⟨g,o+9,none⟩) 2 (c-3)) (es.drop 3):=by have:=eS.dropN 3 (by omega) (c-3);rw[h5]at this;exact this
 have UB:yE.Sl w (.slice (some ⟨g,o,none⟩) 3 c) (es.take 3):=eS.takeN 3 (by omega) c;rw[h5]at c1;have cw:Bl w w0:=by rw[←mz];exact(bQ w.heap.size w).alloc (nR _) _
 have bj:=iNw mz hB;have wl:S≠A.ga:=h.box.type_ne h.v.nds.arr (by decide);have zx:B≠A.ga:=by have:=h.v.nds.arr.lt;omega
 have kg:=h.below cw;obtain⟨_,t1,_⟩:=kg.cells;have b0:w0.cell? ⟨B,0,none⟩=some (.int .i64 k):=bj.c rfl;have b1:w0.cell? ⟨B,1,none⟩=some (.slice (some ⟨g,o,none⟩) 5 c):=bj.c rfl;have qk:Hid (Calls Tryz.prog 108 #[.slice (some ⟨g,o+9,none⟩) 2 (c-3),.slice none 0 0] w0.drew fun r w'=>∃x:NV,r=.returned (.slice x.2.1 x.2.2.1 x.2.2.2)∧x.1=k∧NdR w' x (k,es.drop 3)∧Bl w0 w'):=by
  refine(mO _ _ (es.drop 3) [] w0.drew (EM.below cw.drew) (.inl ⟨rfl,rfl⟩) (by simp;omega) (by simp)).mono ?_;rintro r w1 ⟨u,rfl,hu,ao⟩;rw[List.append_nil]at hu;obtain⟨x,rfl,h1,h2⟩:=hu.nv k;exact⟨x,rfl,h1,h2,(bQ w0.heap.size w0).drew.trans ao⟩
 have Ud:Hid (∀w2:World,Frm (fun k=>k=A.ga) w w2→Calls Tryz.prog 108 #[.slice (some ⟨g,o,none⟩) 3 c,.slice none 0 0] w2.drew fun r w'=>∃x:NV,r=.returned (.slice x.2.1 x.2.2.1 x.2.2.2)∧x.1=k∧NdR w' x (k,es.take 3)∧Bl w2 w'):=fun w2 hF=>by
  refine(mO _ _ (es.take 3) [] w2.drew (UB.frm (hF.trans (Frm.drew _ _)) fun g cs hg=>hg.type_ne h.v.nds.arr (by decide)) (.inl ⟨rfl,rfl⟩) (by simp;omega) (by simp)).mono ?_;rintro r w1 ⟨u,rfl,hu,ao⟩;rw[List.append_nil]at hu;obtain⟨x,rfl,h1,h2⟩:=hu.nv k;exact⟨x,rfl,h1,h2,(bQ w2.heap.size w2).drew.trans ao⟩
 have HS:=aA kg;have HB:=aA bj;obtain⟨f0,f1,WL,Kr,jh,gh,_⟩:=kg.wr hq;have HC:Hid (∀w1:World,Bl w0 w1→w1.cell? ⟨S,1,none⟩=some (.slice (some ⟨A.ga,0,none⟩) A.ns.length (A.ns.length+A.nj.length))∧w1.cell? ⟨B,0,none⟩=some (.int .i64 k)∧w1.cell? ⟨B,1,none⟩=some (.slice (some ⟨g,o,none⟩) 5 c)):=fun w1 hb=>by
  refine⟨(kg.below hb).cells.2.1,?_,?_⟩
  ·rw[(bj.of (hb.block _ bj.lt)).cell];rfl
  ·rw[(bj.of (hb.block _ bj.lt)).cell];rfl
 have HW:Hid (∀w1:World,Bl w0 w1→∃k0 k1,w1.cell? ⟨A.ga,q*2,none⟩=some k0∧w1.cell? ⟨A.ga,q*2+1,none⟩=some k1∧w1.frozen? ⟨A.ga,q*2,none⟩=false∧w1.frozen? ⟨A.ga,q*2+1,none⟩=false):=fun w1 hb=>by
  obtain⟨k0,k1,h1,h2,h3,h4,_⟩:=(kg.below hb).wr hq;exact⟨k0,k1,h1,h2,h3,h4⟩
 have H5:=aA h5;clear h5 EM UB eS bj kg;go_enter Tryz.func89,Tryz.ntmps89;go_wp2;go_region_held3 (fun W=>W.cell? ⟨S,1,none⟩=some (.slice (some ⟨A.ga,0,none⟩) A.ns.length (A.ns.length+A.nj.length))∧W.cell? ⟨B,0,none⟩=some (.int .i64 k)∧W.cell? ⟨B,1,none⟩=some (.slice (some ⟨g,o,none⟩) 5 c)) (first | assumption | go_keep | exact⟨bU wl de,bU zx fz,bU zx vy⟩) ((go_at_call 108;refine qk.out.mono ?_;rintro r w1 ⟨x,rfl,zh,Ad,ao⟩;obtain⟨de,fz,vy⟩:=HC.out w1 ao;obtain⟨k0,k1,gp,fw,jh,gh⟩:=HW.out w1 ao));have ax:Sp (set2 w1 A.ga q x) S (A.setN q x) (setN f q (k,es.drop 3)):=(HS.out.below ao).set2 hq Ad;have ci:(w1.setCell ⟨A.ga,q*2,none⟩ (.int .i64 k)).setCell ⟨A.ga,q*2+1,none⟩ (.slice x.2.1 x.2.2.1 x.2.2.2)=set2 w1 A.ga q x:=by unfold set2;rw[zh]
 rw[ci];have du:Frm (fun k=>k=A.ga) w (set2 w1 A.ga q x):=((Frm.of_below cw).trans (Frm.of_below ao)).trans (eC w1 A.ga q x);have fv:IsC (set2 w1 A.ga q x) B #[.int .i64 k,.slice (some ⟨g,o,none⟩) 5 c] 108:=(HB.out.of (ao.block _ HB.out.lt)).frm (eC w1 A.ga q x) zx;generalize set2 w1 A.ga q x=w2 at *;obtain⟨_,t1,_⟩:=ax.cells;have b0:w2.cell? ⟨B,0,none⟩=some (.int .i64 k):=fv.c rfl;have b1:w2.cell? ⟨B,1,none⟩=some (.slice (some ⟨g,o,none⟩) 5 c):=fv.c rfl;have HA:Hid ((A.setN q x).ns.length=A.ns.length):=by simp[SA.setN,Hid]
 have t1':w2.cell? ⟨S,1,none⟩=some (.slice (some ⟨A.ga,0,none⟩) A.ns.length (A.ns.length+A.nj.length)):=by rw[HA.out]at t1;exact t1
 have CA:Hid (∀w1:World,Bl w2 w1→w1.cell? ⟨S,1,none⟩=some (.slice (some ⟨A.ga,0,none⟩) A.ns.length (A.ns.length+A.nj.length))∧w1.cell? ⟨B,0,none⟩=some (.int .i64 k)∧w1.cell? ⟨B,1,none⟩=some (.slice (some ⟨g,o,none⟩) 5 c)):=fun w1 hb=>by
  refine⟨?_,?_,?_⟩
  ·have:=(ax.below hb).cells.2.1
   rw[HA.out]at this;exact this
  ·rw[(fv.of (hb.block _ fv.lt)).cell];rfl
  ·rw[(fv.of (hb.block _ fv.lt)).cell];rfl
 have Da:Hid (∀w1:World,Bl w2 w1→∃k0 k1,w1.cell? ⟨A.ga,b*2,none⟩=some k0∧w1.cell? ⟨A.ga,b*2+1,none⟩=some k1∧w1.frozen? ⟨A.ga,b*2,none⟩=false∧w1.frozen? ⟨A.ga,b*2+1,none⟩=false):=fun w1 xi=>by
  obtain⟨k0,k1,h1,h2,h3,h4,_⟩:=(ax.below xi).wr (q:=b) hb;exact⟨k0,k1,h1,h2,h3,h4⟩
 have pw:=aA ax;have sg:=aA du;have HJ:=Ud.out w2 du;have Ue:=aA HJ;clear de fz vy gp fw jh gh ax fv HJ t1 WL Kr ci du;go_wp2;go_region_held3 (fun W=>W.cell? ⟨S,1,none⟩=some (.slice (some ⟨A.ga,0,none⟩) A.ns.length (A.ns.length+A.nj.length))∧W.cell? ⟨B,0,none⟩=some (.int .i64 k)∧W.cell? ⟨B,1,none⟩=some (.slice (some ⟨g,o,none⟩) 5 c)) (first | assumption | go_keep | exact⟨bU wl de,bU zx fz,bU zx vy⟩) ((go_at_call 108;refine Ue.out.mono ?_;rintro r w3 ⟨y,rfl,C8,zi,bx⟩;obtain⟨de,fz,vy⟩:=CA.out w3 bx;obtain⟨k0,k1,gp,fw,jh,gh⟩:=Da.out w3 bx));have cn:(w3.setCell ⟨A.ga,b*2,none⟩ (.int .i64 k)).setCell ⟨A.ga,b*2+1,none⟩ (.slice y.2.1 y.2.2.1 y.2.2.2)=set2 w3 A.ga b y:=by unfold set2;rw[C8]
 rw[cn];have HR:Hid (Zt w S A (setN (setN f q (k,es.drop 3)) b (k,es.take 3)) (set2 w3 A.ga b y)):=
  ⟨⟨_,(pw.out.below bx).set2 (q:=b) hb zi,(SaS.setN A q x).trans (SaS.setN _ b y)⟩,(sg.out.trans (Frm.of_below bx)).trans (eC w3 A.ga b y)⟩
 clear cn de fz vy gp fw jh gh;go_wp2;exact⟨rfl,.tuple #[],by simp[results,Tryz.f89,go_sem],rfl,HR.out⟩
theorem aNB(W:World)(k v:ByteArray):(Instr.build 110 #[(0,.string k),(1,.string v)]).run Tryz.prog W=.ok (.agg #[.string k,.string v,.int .i64 0]) W:=by kernel_rfl
structure ZpP(w:World)(S:Nat)(A:SA)(r:Option fZ)(e:Ending)(w':World):Prop where
 no:r=none→e=.returned (.bool false)∧Frm (fun k=>k=A.ga) w w'
 yes:∀g,r=some g→e=.returned (.bool true)∧Zt w S A g w'
theorem Sp.store{A:SA}(h:Sp w S A f)(hb:Bl w w1)(hq:q<f.cur.length)(hx:NdR w1 x d):Zt w S A (Fo.setN f q d) (Go.Proofs.YtaahkgkdpnnhhaaGreat.set2 w1 A.ga q x):=
 ⟨⟨_,(h.below hb).set2 hq hx,SaS.setN A q x⟩,(Frm.of_below hb).trans (eC w1 A.ga q x)⟩
theorem dI{k:Int}(h:x.1=k):(w.setCell ⟨g,q*2,none⟩ (.int .i64 k)).setCell ⟨g,q*2+1,none⟩ (.slice x.2.1 x.2.2.1 x.2.2.2)=set2 w g q x:=by unfold set2;rw[h]
theorem Sp.swapped{A:SA}(h:Sp w S A f)(v:Value)(es:List E3)(i:Nat)(e:E3)(hv:yE.Sl w v es)(hi:i<es.length)(hl:es.length≤100)(k:Int)(hb:b<f.cur.length):
  Calls Tryz.prog 94 #[v,.int .i64 i,.agg #[.string e.1,.string e.2.1,.int .i64 e.2.2]] w.drew fun r w'=>∃x:NV,r=.returned (.slice x.2.1 x.2.2.1 x.2.2.2)∧x.1=k∧NdR w' x (k,es.set i e)∧Bl w w'∧w'.cell? ⟨S,1,none⟩=some (.slice (some ⟨A.ga,0,none⟩) A.ns.length (A.ns.length+A.nj.length))∧
   ∃k0 k1,w'.cell? ⟨A.ga,b*2,none⟩=some k0∧w'.cell? ⟨A.ga,b*2+1,none⟩=some k1∧w'.frozen? ⟨A.ga,b*2,none⟩=false∧w'.frozen? ⟨A.ga,b*2+1,none⟩=false:=by
 refine(eR v es i e w.drew (hv.below (bQ _ w).drew) hi hl).mono ?_;rintro r w1 ⟨u,rfl,hu,ao⟩;obtain⟨x,rfl,h1,h2⟩:=hu.nv k;have hB:Bl w w1:=(bQ _ w).drew.trans ao;obtain⟨k0,k1,y1,y2,y3,y4,_⟩:=(h.below hB).wr hb;exact⟨x,rfl,h1,h2,hB,(h.below hB).cells.2.1,k0,k1,y1,y2,y3,y4⟩
theorem Sp.inserted{A:SA}(h:Sp w S A f)(v:Value)(es:List E3)(i:Nat)(e:E3)(hv:yE.Sl w v es)(hi:i≤es.length)(hl:es.length≤100)(k:Int)(hb:b<f.cur.length):
  Calls Tryz.prog 109 #[v,.int .i64 i,.agg #[.string e.1,.string e.2.1,.int .i64 e.2.2]] w.drew fun r w'=>∃x:NV,r=.returned (.slice x.2.1 x.2.2.1 x.2.2.2)∧x.1=k∧NdR w' x (k,insE es i e)∧Bl w w'∧w'.cell? ⟨S,1,none⟩=some (.slice (some ⟨A.ga,0,none⟩) A.ns.length (A.ns.length+A.nj.length))∧
   ∃k0 k1,w'.cell? ⟨A.ga,b*2,none⟩=some k0∧w'.cell? ⟨A.ga,b*2+1,none⟩=some k1∧w'.frozen? ⟨A.ga,b*2,none⟩=false∧w'.frozen? ⟨A.ga,b*2+1,none⟩=false:=by
 refine(nP v es i e w.drew (hv.below (bQ _ w).drew) hi hl).mono ?_;rintro r w1 ⟨u,rfl,hu,ao⟩;obtain⟨x,rfl,h1,h2⟩:=hu.nv k;have hB:Bl w w1:=(bQ _ w).drew.trans ao;obtain⟨k0,k1,y1,y2,y3,y4,_⟩:=(h.below hB).wr hb;exact⟨x,rfl,h1,h2,hB,(h.below hB).cells.2.1,k0,k1,y1,y2,y3,y4⟩
theorem wQ(w:World)(S:Nat)(A:SA)(h:Sp w S A f)(b:Nat)(es:List E3)(key val:ByteArray)(hd:f.nodes b=some (1,es))(hs:Srt es)(h0:∀i,i<es.length→(es.getD i e0).2.2=0)(h5:es.length≤10)(hb:b<f.cur.length):
  Calls Tryz.prog 90 #[.pointer (some ⟨S,0,none⟩),.int .i64 b,.string key,.string val] w fun e w'=>e=.returned (.bool true)∧Zt w S A (setN f b (1,putE es key val)) w':=by
 have sm:=gR;have Fr:=aNB;obtain⟨_,s1,_⟩:=h.cells;obtain⟨a,c,eS,d9,AW,c0,c1,pp⟩:=h.v.nds.at hd;simp only at eS c0 c1;have cg:0<es.length→_:=fun h=>dZ eS h;have E6:(b:Int) <(A.ns.length:Int):=by omega
 have wl:S≠A.ga:=h.box.type_ne h.v.nds.arr (by decide);have yx:=aA fun(i:Nat) (hi:i<es.length)=>h.swapped (.slice a es.length c) es i (key,val,0) eS hi (by omega) 1 hb;have qi:=aA fun(i:Nat) (hi:i≤es.length)=>h.inserted (.slice a es.length c) es i (key,val,0) eS hi (by omega) 1 hb;clear eS AW pp;go_enter Tryz.func90,Tryz.ntmps90;go_wp2;go_loopw [10,11] (fun u k wr=>∃j:Nat,j≤es.length∧k=.int .i64 j∧Is2 u (.int .i64 (qT es key j)) wr w∧Hid (∀x,x<j→ky es x≠key)) (fun _ k _=>es.length -(intOf k).toNat)
 case atStart=>exact⟨0,by omega,rfl,⟨rfl,rfl⟩,fun x hx=>by omega⟩
 case round=>
  obtain⟨j,hj,rfl,⟨rfl,rfl⟩,ay⟩:=hrel;by_cases ai:j<es.length
  ·obtain⟨g,o,c',he,hg,aa⟩:=cg (by omega)
   cases he
   obtain⟨x0,x1,x2⟩:=aa wr j rfl ai;have dm:(j:Int) <(es.length:Int):=by omega
   have HK:Hid (ky es j=(es.getD j e0).1):=rfl;clear cg aa;generalize (es.getD j e0).1=x at *;by_cases he:x=key
   ·have HP:=aA (aHT (val:=val) hs h0 ai (HK.out.trans he))
    have hq:(x.toList == key.toList)=true:=by rw[he];exact beq_self_eq_true _
    clear he;have HC:=yx.out j ai;have LU:=aA HC;clear HC yx qi;go_wp2;go_region_held3 (fun W=>W.cell? ⟨S,1,none⟩=some (.slice (some ⟨A.ga,0,none⟩) A.ns.length (A.ns.length+A.nj.length))) (first | assumption | go_keep | exact bU wl de) ((go_at_call 94;refine LU.out.mono ?_;rintro r w1 ⟨y,rfl,zh,Ad,ao,de,k0,k1,gp,fw,jh,gh⟩));rw[dI zh];have HR:Hid (Zt wr S A (setN f b (1,putE es key val)) (set2 w1 A.ga b y)):=by rw[HP.out];exact h.store ao hb Ad
    go_wp2
    go_ret
    exact⟨rfl,HR.out⟩
   ·have hq:(x.toList == key.toList)=false:=by rw[beq_eq_false_iff_ne];exact fun e=>he (gQ e)
    have HA:Hid (∀z,z<j+1→ky es z≠key):=fun z hz=>by
     by_cases e:z=j
     ·rw[e,HK.out];exact he
     ·exact ay.out z (by omega)
    have HS:Hid (qT es key (j+1)=if kl (ky es j) key=true then j+1 else qT es key j):=rfl;have HB:Hid (kl (ky es j) key=Op.bytesLess x.toList key.toList):=by show kl (ky es j) key=_;rw[HK.out];rfl
    clear he yx qi;cases hl:Op.bytesLess x.toList key.toList with
    | true=>
     rw[HB.out,if_pos hl]at HS;go_wp2;go_roundw
     case rel=>exact⟨j+1,by omega,by go_num,⟨by rw[HS.out];go_num,rfl⟩,HA.out⟩
     case measure=>simp[intOf];omega
    | false=>
     rw[HB.out,if_neg (by rw[hl];simp)]at HS;go_wp2;go_roundw
     case rel=>exact⟨j+1,by omega,by go_num,⟨by rw[HS.out],rfl⟩,HA.out⟩
     case measure=>simp[intOf];omega
  ·obtain rfl:j=es.length:=by omega
   have HP:=aA (aKI (val:=val) hs ay.out);have pr:qT es key es.length≤es.length:=by rw[xU hs];exact jS _ _
   have LU:=aA (qi.out _ pr);generalize qT es key es.length=at' at *;clear yx qi cg;go_wp2;go_region_held3 (fun W=>W.cell? ⟨S,1,none⟩=some (.slice (some ⟨A.ga,0,none⟩) A.ns.length (A.ns.length+A.nj.length))) (first | assumption | go_keep | exact bU wl de) ((go_at_call 109;refine LU.out.mono ?_;rintro r w1 ⟨x,rfl,zh,Ad,ao,de,k0,k1,gp,fw,jh,gh⟩));rw[dI zh];have HR:Hid (Zt wr S A (setN f b (1,putE es key val)) (set2 w1 A.ga b x)):=by rw[HP.out];exact h.store ao hb Ad
   go_wp2
   go_ret
   exact⟨rfl,HR.out⟩
structure Fin(f' g:fZ)(b:Nat)(d:Nd):Prop where
 sub:∀x d',g.nodes x=some d'→(setN f' b d).nodes x=some d'
 len:g.cur.length=f'.cur.length
 roots:g.roots=f'.roots
 next:g.next=f'.next
 gen:g.gen=f'.gen
 com:g.com=f'.com
theorem Sp.fin{A:SA}{f' g:fZ}(h:Sp w S A f')(hb:Bl w w1)(hq:b<f'.cur.length)(hx:NdR w1 x d)(k:Fin f' g b d):Zt w S A g (Go.Proofs.YtaahkgkdpnnhhaaGreat.set2 w1 A.ga b x):=by
 obtain⟨⟨A',h1,h2⟩,h3⟩:=h.store hb hq hx;exact⟨⟨A',h1.sub k.sub k.len k.roots k.next k.gen k.com,h2⟩,h3⟩
theorem Zt.trans{A A1:SA}{g:fZ}(hF:Frm (fun k=>k=A.ga) w w1)(hA:SaS A A1)(h:Zt w1 S A1 g w2):Zt w S A g w2:=by
 obtain⟨⟨A2,h1,h2⟩,h3⟩:=h;rw[hA.ga]at h3;exact⟨⟨A2,h1,hA.trans h2⟩,hF.trans h3⟩
theorem ZpP.trans{A A1:SA}(hF:Frm (fun k=>k=A.ga) w w1)(hA:SaS A A1)(h:ZpP w1 S A1 r e w2):ZpP w S A r e w2:=
 ⟨fun q=>⟨(h.no q).1,by have:=(h.no q).2;rw[hA.ga]at this;exact hF.trans this⟩,fun g q=>⟨(h.yes g q).1,Zt.trans hF hA (h.yes g q).2⟩⟩
theorem ZpP.ret{A:SA}(h:ZpP w S A r e w2):∃v,e=.returned (.bool v):=by
 cases r with
 | none=>exact⟨_,(h.no rfl).1⟩
 | some g=>exact⟨_,(h.yes g rfl).1⟩
structure ZsP(w:World)(S:Nat)(A:SA)(f:fZ)(b i:Nat)(es:List E3)(r:Ending)(w':World):Prop where
 frm:Frm (fun k=>k=A.ga) w w'
 no:shadow f (.ent b i)=none→r=.returned (.int .i64 (-1))
 yes:∀g c,shadow f (.ent b i)=some (g,c)→r=.returned (.int .i64 c)∧∃A' f',Sp w' S A' f'∧SaS A A'∧f'.cur.length=f.cur.length∧Fin f' g b (2,es.set i (ky es i,.empty,(c:Int)))
theorem gV(hI:IC f)(hE:∀b d,f.nodes b=some d→d.2.length≤10)(hV:VE f)(w:World)(S:Nat)(A:SA)(h:Sp w S A f)(jr:f.roots.length≤16)(b i:Nat)(es:List E3)(af:f.nodes b=some (2,es))(hi:i<es.length):
  Calls Tryz.prog 87 #[.pointer (some ⟨S,0,none⟩),.int .i64 (kd es i)] w (ZsP w S A f b i es):=by
 obtain⟨d,hd⟩:=hI.kid_live af (aP hi);refine(nQ hI hE w S A h jr (kd es i) d hd).mono ?_;intro r w' hz;rcases tE hI hV af hi hd with⟨ho,hs,he⟩ | ⟨ho,hl,hs⟩ | ⟨ho,hl,g,hs,h1,h2,h3⟩
 ·obtain⟨rfl,hb⟩:=hz.own ho
  refine⟨Frm.of_below hb,fun q=>(by rw[hs]at q;cases q),fun g c q=>?_⟩;rw[hs]at q;cases q;refine⟨rfl,A,f,h.below hb,SaS.refl _,rfl,fun x d' hx=>?_,rfl,rfl,rfl,rfl,rfl⟩;rw[he];show upd f.nodes b (some (2,es)) x=some d'
  by_cases e:x=b
  ·rw[e,aD,←af,←e];exact hx
  ·rw[aC _ _ e];exact hx
 ·obtain⟨rfl,hb⟩:=hz.no ho hl
  exact⟨Frm.of_below hb,fun _=>rfl,fun g c q=>by rw[hs]at q;cases q⟩
 ·obtain⟨rfl,hS,hF⟩:=hz.yes ho hl
  refine⟨hF,fun q=>(by rw[hs]at q;cases q),fun g' c q=>?_⟩;rw[hs]at q;cases q;exact⟨rfl,_,_,hS,SaS.setN _ _ _,rfl,h3,h2.cur,h1,h2.next,h2.gen,h2.com⟩
structure Ct1(w:World)(S:Nat)(A:SA)(f1:fZ)(es1:List E3)(s9:Value)(wx:World):Prop where
 ex:∃A1,Sp wx S A1 f1∧SaS A A1
 frm:Frm (fun k=>k=A.ga) w wx
 sl:yE.Sl wx s9 es1
theorem uB{H:Nat}{P:List Nat}{h:Nat}{lo hi:OB}{key val:ByteArray}(wk:Wk f t H)(p:aN f t H P b (h+1) lo hi)(hl:loR lo key)(hh:hiR hi key)(h5:sz f.nodes b<5)(hV:VE f)(jr:f.roots.length≤16)
  (ih:∀(g:fZ) (c:Nat) (P':List Nat) (lo' ak:OB),Wk g t H→aN g t H P' c h lo' ak→loR lo' key→hiR ak key→sz g.nodes c<5→VE g→g.roots.length≤16→∀(w:World) (S:Nat) (A:SA),Sp w S A g→Calls Tryz.prog 90 #[.pointer (some ⟨S,0,none⟩),.int .i64 c,.string key,.string val] w (ZpP w S A ((putAt h g c key val).map Prod.fst)))
  (w:World) (S:Nat) (A:SA) (hS:Sp w S A f):Calls Tryz.prog 90 #[.pointer (some ⟨S,0,none⟩),.int .i64 b,.string key,.string val] w (ZpP w S A ((putAt (h+1) f b key val).map Prod.fst)):=by
 have sm:=gR;have Fr:=iS;obtain⟨es,af,so,av⟩:=p.inner wk;have ah:es.length≤5:=wk.ent af;have d9:=wk.ic.lt af;have cg:0<es.length:=List.length_pos_iff.2 av;obtain⟨wk1,p1,_⟩:=wk.lowKey p af key hl;obtain⟨v0,v1⟩:=hV.inner wk.ic af cg;obtain⟨_,s1,_⟩:=hS.cells;obtain⟨a,c,eS,xk,AW,c0,c1,pp⟩:=hS.v.nds.at af;simp only at eS c0 c1;have wl:S≠A.ga:=hS.box.type_ne hS.v.nds.arr (by decide);have E6:(b:Int) <(A.ns.length:Int):=by omega
 have YQ:(0:Int) <(es.length:Int):=by omega
 have HL:=aA (aI hl hh);have zu:Hid (putAt (h+1) f b key val=match stepDown f b key with
  | none=>none
  | some (g,c)=>putAt h g c key val):=rfl
 have yv:=aA (pR af key);rw[yv.out]at zu;have HK:Hid (lowK es key=if kl key (ky es 0)=true then es.set 0 (key,(es.getD 0 e0).2)else es):=rfl;have CL:VE (setN f b (2,lowK es key)):=hV.setN b (VL.lowK (hV b _ af) key);have yx:=hS.swapped (.slice a es.length c) es 0 (key,.empty,(kd es 0:Int)) eS cg (by omega) 2 d9;obtain⟨g0,o0,cc,he,vm,aa⟩:=dZ eS cg;cases he;obtain⟨x0,x1,x2⟩:=aa w 0 rfl cg;rw[v0]at x0 x1 x2;simp only[Nat.zero_mul,Nat.add_zero]at x0 x1 x2;have HQ:Hid (ky es 0=ky es 0):=rfl;have HB:Hid (kl key (ky es 0)=Op.bytesLess key.toList (ky es 0).toList):=rfl;clear aa;generalize putAt (h+1) f b key val=PA at *;have mm:=aA hS;have Ka:=aA eS;go_enter Tryz.func90,Tryz.ntmps90;go_upto_if 86 with fail
 go_cut [9] (fun s9 wx=>Ct1 w S A (setN f b (2,lowK es key)) (lowK es key) s9 wx)
 case first=>
  by_cases hk:kl key (ky es 0)=true
  ·have qr:Op.bytesLess key.toList (ky es 0).toList=true:=hk
   have Nt:Hid (lowK es key=es.set 0 (key,.empty,(kd es 0:Int))):=by show lowK es key=_;rw[HK.out,if_pos hk,v0]
   have Cd:Hid (Calls Tryz.prog 94 #[.slice (some ⟨g0,o0,none⟩) es.length c,.int .i64 0,.agg #[.string key,.string .empty,.int .i64 (kd es 0)]] w fun r w'=>∃u,r=.returned u∧yE.Own w.heap.size w' u (es.set 0 (key,.empty,(kd es 0:Int)))∧Bl w w'):=eR _ es 0 (key,.empty,(kd es 0:Int)) w Ka.out cg (by omega);rw[qr];clear hk yx qr;go_wp2_with fail;refine Cd.out.mono ?_;rintro r w1 ⟨u,rfl,hu,ao⟩;obtain⟨x,rfl,zh,Ad⟩:=hu.nv 2;have br:=mm.out.below ao;obtain⟨k0,k1,gp,fw,jh,gh,_⟩:=br.wr d9;obtain⟨_,t1,_⟩:=br.cells;have HR:=aA (mm.out.store ao d9 Ad);have HX:Hid (yE.Sl w1 (.slice x.2.1 x.2.2.1 x.2.2.2) (es.set 0 (key,.empty,(kd es 0:Int)))):=hu.sl;clear br;go_wp2;rw[dI zh];go_meet;rw[Nt.out];obtain⟨⟨A1,q1,q2⟩,q3⟩:=HR.out;exact⟨⟨A1,q1,q2⟩,q3,HX.out.frm (eC w1 A.ga b x) fun g cs hg=>hg.type_ne (mm.out.below ao).v.nds.arr (by decide)⟩
  ·have qr:Op.bytesLess key.toList (ky es 0).toList=false:=Bool.eq_false_iff.2 hk
   have Nt:Hid (lowK es key=es):=by show lowK es key=_;rw[HK.out,if_neg hk]
   rw[qr];clear hk yx qr;go_wp2_with fail;go_meet;rw[Nt.out];refine⟨⟨A,mm.out.sub (fun x d' hx=>?_) rfl rfl rfl rfl rfl,SaS.refl _⟩,Frm.refl _ _,Ka.out⟩;have bq:upd f.nodes b (some (2,es)) x=some d':=hx;by_cases e:x=b
   ·rw[e,aD]at bq;rw[e,af];exact bq
   ·rw[aC _ _ e]at bq;exact bq
 case rest=>
  obtain⟨⟨A1,br,Ce⟩,ij,jy⟩:=hcut;have ew:(setN f b (2,lowK es key)).nodes b=some (2,lowK es key):=aD _ _ _;have ee:(lowK es key).length=es.length:=cI es key;obtain⟨_,q1,yj,lw⟩:=p1.inner wk1;rw[ew]at q1;cases q1;have NG:(setN f b (2,lowK es key)).roots.length≤16:=jr;have Cs:(setN f b (2,lowK es key)).cur.length=f.cur.length:=rfl;have Dh:=fun b' d' (gd:(setN f b (2,lowK es key)).nodes b'=some d')=>(by have:=wk1.ent gd;omega:d'.2.length≤10);generalize lowK es key=es1 at *;generalize setN f b (2,es1)=f1 at *;have Hz:=aA (rK yj.srt key);have fe:=eB key lw;obtain⟨v1,_⟩:=CL.inner wk1.ic ew fe;obtain⟨va,vc,rfl⟩:=jy.len;obtain⟨g1,o1,cc1,EO,iv,ud⟩:=dZ jy (by omega);cases EO;have Bc:=vC (.slice (some ⟨g1,o1,none⟩) es1.length vc) es1 key wc jy (by omega);rw[Hz.out]at Bc;have RF:es1.length≤5:=by omega
  have KZ:=aA (aI ee Cs);clear ee Cs;generalize bK es1 key=i at *;obtain⟨x0,x1,x2⟩:=ud wc i rfl fe;rw[v1]at x0 x1 x2;have Q1:(i:Int) <(es1.length:Int):=by omega
  have yw:=aA (gV wk1.ic Dh CL wc S A1 br NG b i es1 ew fe);have Us:=zu;have Sh:Hid (∀g c,stepDown f b key=some (g,c)→∃P' lo' ak,Wk g t H∧aN g t H P' c h lo' ak∧loR lo' key∧hiR ak key∧sz g.nodes c<5∧aX f g):=fun g c q=>by
   obtain⟨P',lo',ak,k1,k2,k3,k4,k5,_,k6⟩:=wk.stepDown p HL.out.1 HL.out.2 h5 q;exact⟨P',lo',ak,k1,k2,k3,k4,k5,k6⟩
  have zq:=aA ij;have Og:=aA Ce;clear yx v0 v1 hV HK HQ HB ij Ce ud;go_wp2_with fail;refine Bc.mono ?_;rintro r w2 ⟨rfl,rfl⟩;go_wp2_with fail;refine yw.out.mono ?_;intro r w3 hz;obtain⟨bu,uw,uy⟩:=hz;cases al:shadow f1 (.ent b i)with
  | none=>
   obtain rfl:=uw al;have HP:Hid (PA=none):=by show PA=none;rw[zu.out];rw[al]
   clear uw uy al;go_wp2;go_ret;rw[HP.out];exact⟨fun _=>⟨rfl,zq.out.trans (by have:=bu;rw[Og.out.ga]at this;exact this)⟩,fun g q=>by cases q⟩
  | some gc=>
   obtain⟨g,c⟩:=gc;obtain⟨rfl,A3,f3,cy,BE,ul,be⟩:=uy g c al;obtain⟨wk2,_,p3,⟨es2,m1,m2,m3,m4⟩,m5,m6,m7,_,m9⟩:=wk1.shadow_ent p1 ew fe al;have sk:=CL.shadow_ent wk1.ic ew fe al;rw[al]at zu yv;obtain⟨es',xw⟩:=eZ (es1.set i (ky es1 i,.empty,(c:Int)));rw[xw]at be;have od:g.nodes b=some (2,es'):=by
    have:=be.sub b _ m1
    have e:(setN f3 b (2,es')).nodes b=some (2,es'):=aD _ _ _;rw[e]at this;rw[m1];exact this.symm
   obtain⟨⟨k,ces⟩,i9⟩:=wk2.ic.live (x:=c) (by rw[m6];omega);have au:=wk2.ent i9;have re:=wk2.ent od;simp only at au re;have EA:b<f3.cur.length:=by rw[ul,KZ.out.2];exact d9
   have lz:yE.Sl w3 (.slice (some ⟨g1,o1,none⟩) es1.length vc) es1:=jy.frm bu fun g cs hg=>hg.type_ne br.v.nds.arr (by decide);obtain⟨y0,y1,y2⟩:w3.cell? ⟨g1,o1+i*3,none⟩=some (.string (ky es1 i))∧w3.cell? ⟨g1,o1+i*3+1,none⟩=some (.string .empty)∧w3.cell? ⟨g1,o1+i*3+2,none⟩=some (.int .i64 (kd es1 i)):=by
    have av:g1≠A1.ga:=by
     rcases jy with⟨q,_⟩ | ⟨g',o',cap',xs,q,q1,_⟩
     ·cases q
     ·cases q;exact q1.type_ne br.v.nds.arr (by decide)
    have hw:∀k,w3.cell? ⟨g1,k,none⟩=w2.cell? ⟨g1,k,none⟩:=fun k=>by simp[World.cell?,bu.block g1 iv av]
    exact⟨(hw _).trans x0,(hw _).trans x1,(hw _).trans x2⟩
   have H7:Hid (Calls Tryz.prog 94 #[.slice (some ⟨g1,o1,none⟩) es1.length vc,.int .i64 i,.agg #[.string (ky es1 i),.string .empty,.int .i64 c]] w3 fun r w'=>∃u,r=.returned u∧yE.Own w3.heap.size w' u es'∧Bl w3 w'):=by
    rw[←xw];exact eR _ es1 i (ky es1 i,ByteArray.empty,(c:Int)) w3 lz fe (by omega)
   have zc:¬((c:Int)<0):=by omega
   have Eo:Hid (es'.length=es1.length):=by show es'.length=_;rw[←xw,List.length_set]
   have H0:Hid (Frm (fun k=>k=A.ga) w w3):=zq.out.trans (by have:=bu;rw[Og.out.ga]at this;exact this);have LQ:Hid (SaS A A3):=Og.out.trans BE;have BA:Hid (g.roots.length≤16):=by show g.roots.length≤16;rw[m9.len];exact NG
   have KY:Hid (g.cur.length=f3.cur.length):=be.len;clear uw uy jy br xw m1 m3 m4 m5 m7 m9 Dh Bc yw bu BE ul x0 x1 x2 lz;go_wp2_with fail;refine H7.out.mono ?_;rintro r w4 ⟨u,rfl,hu,kw⟩;obtain⟨x,rfl,zh,Ad⟩:=hu.nv 2;have aw:=cy.below kw;obtain⟨k0,k1,gp,fw,jh,gh,QD⟩:=aw.wr EA;obtain⟨_,t1,_⟩:=aw.cells;obtain⟨⟨A5,cq,zw⟩,er⟩:=cy.fin kw EA Ad be;have C3:yE.Sl (set2 w4 A3.ga b x) (.slice x.2.1 x.2.2.1 x.2.2.2) es':=hu.sl.frm (eC w4 A3.ga b x) fun g cs hg=>hg.type_ne aw.v.nds.arr (by decide);have uz:Hid (Frm (fun k=>k=A.ga) w (set2 w4 A3.ga b x)):=H0.out.trans (er.wide fun k _ e=>e.trans LQ.out.ga);have GU:Hid (SaS A A5):=LQ.out.trans zw;have IA:=aA cq;have sf:=dI (w:=w4) (g:=A3.ga) (q:=b) zh;obtain⟨w5,Ng⟩:=eZ (set2 w4 A3.ga b x);rw[Ng]at cq C3 uz IA sf;obtain⟨_,t5,_⟩:=cq.cells;obtain⟨ac,cpc,fx,JD,_,d0,d1,EK⟩:=cq.v.nds.at i9;simp only at fx d0 d1 EK;have Fs:(c:Int) <(A5.ns.length:Int):=by omega
   clear aw kw er zw Ad hu cy Ng cq;go_upto_if 142 with fail
   clear sf;by_cases hf5:ces.length=5
   ·have td:((ces.length:Int) == 5)=true:=by rw[hf5];rfl
    have H5:=aA hf5;rw[td];clear hf5 td;have IK:=fun b' d' (gd:g.nodes b'=some d')=>(by have:=wk2.ent gd;omega:d'.2.length≤10);have HT:=aA (mT g);have Lh:=aA (mP wk2.ic (wk2.ic.counts BA.out IK) IK w5 S A5 IA.out (by have:=BA.out;omega) (-1));clear IK fx;go_wp2_with fail;refine Lh.out.mono ?_;rintro r w6 ⟨rfl,ke⟩;rw[HT.out];rw[aE i9,aE od]at zu;simp only at zu;rw[if_pos H5.out]at zu;by_cases hlw:aF g=0
    ·rw[if_pos hlw]
     rw[if_pos hlw]at zu;have HP:Hid (PA=none):=zu.out;clear hlw zu;go_wp2;go_ret;rw[HP.out];exact⟨fun _=>⟨rfl,uz.out.trans (Frm.of_below ke)⟩,fun g q=>by cases q⟩
    ·rw[if_neg hlw]
     rw[if_neg hlw]at zu;obtain⟨l1,l2,l3,l4⟩:=aR hlw;have H4:Hid (stepDown f b key=some (splitF g b es' i c k ces 3 (aF g) (ky ces 3),if kl key (ky ces 3)=true then c else aF g)):=by
      show stepDown f b key=_
      rw[yv.out,aE i9,aE od];exact(if_pos H5.out).trans (if_neg hlw)
     have TI:PA=putAt h (splitF g b es' i c k ces 3 (aF g) (ky ces 3)) (if kl key (ky ces 3)=true then c else aF g) key val:=zu.out;have Ny:=aA TI;obtain⟨P',lo',ak,k1,k2,k3,k4,k5,k6⟩:=Sh.out _ _ H4.out;have MO:VE (splitF g b es' i c k ces 3 (aF g) (ky ces 3)):=sk.splitF b (sk b _ od) i c k (sk c _ i9) 3 (aF g) (ky ces 3);have AH:c≠aF g:=fun e=>by rw[e]at m6;omega
     have mh:b≠aF g:=fun e=>by have:=wk2.ic.cu_pos od;rw[e]at this;omega
     have MD:(splitF g b es' i c k ces 3 (aF g) (ky ces 3)).roots.length≤16:=BA.out;have Fq:=IA.out.below ke;have Ox:=aA (rZ w6 S A5 Fq c (aF g) k ces i9 H5.out (wk2.ic.lt i9) l2 AH);have Ef:=C3.below ke;have py:Fin (setN (setN g (aF g) (k,ces.drop 3)) c (k,ces.take 3)) (splitF g b es' i c k ces 3 (aF g) (ky ces 3)) b (2,insE es' (i+1) (ky ces 3,.empty,(aF g:Int))):=by
      refine⟨fun z d' hz=>?_,by simp[splitF,setN,takeAt],rfl,rfl,rfl,rfl⟩;have ru:upd (upd (upd g.nodes c (some (k,ces.take 3))) (aF g) (some (k,ces.drop 3))) b (some (2,insE es' (i+1) (ky ces 3,.empty,(aF g:Int)))) z=some d':=hz;show upd (upd (upd g.nodes (aF g) (some (k,ces.drop 3))) c (some (k,ces.take 3))) b _ z=some d'
      by_cases e1:z=b
      ·rw[e1,aD]at ru ⊢;exact ru
      ·rw[aC _ _ e1]at ru ⊢
       by_cases e2:z=c
       ·rw[e2,aC _ _ AH,aD]at ru
        rw[e2,aD];exact ru
       ·rw[aC _ _ e2]
        by_cases e3:z=aF g
        ·rw[e3,aD]at ru ⊢;exact ru
        ·rw[aC _ _ e3,aC _ _ e2]at ru
         rw[aC _ _ e3];exact ru
     have nm:(setN (setN g (aF g) (k,ces.drop 3)) c (k,ces.take 3)).nodes (aF g)=some (k,ces.drop 3):=by
      show upd (upd g.nodes (aF g) _) c _ (aF g)=_
      rw[aC _ _ (Ne.symm AH),aD]
     have Kx:(setN (setN g (aF g) (k,ces.drop 3)) c (k,ces.take 3)).cur.length=g.cur.length:=rfl;have EN:ky (ces.drop 3) 0=ky ces 3:=by unfold ky;rw[eW]
     have fg:(ces.drop 3).length=2:=by rw[List.length_drop,H5.out]
     have QI:b<g.cur.length:=wk2.ic.lt od;generalize setN (setN g (aF g) (k,ces.drop 3)) c (k,ces.take 3)=g7 at *;generalize splitF g b es' i c k ces 3 (aF g) (ky ces 3)=gs at *;generalize ces.drop 3=dr at *;generalize ky ces 3=first at *
     generalize aF g=q at *;have jd:i+1≤es'.length:=by rw[Eo.out];exact fe
     clear TI zu hlw;go_wp2_with fail;refine Ox.out.mono ?_;rintro r w7 ⟨rfl,⟨⟨A7,it,Db⟩,Ak⟩⟩;obtain⟨_,t7,_⟩:=it.cells;obtain⟨aq,cpq,Bv,Rc,_,e0',e1',_⟩:=it.v.nds.at nm;simp only at Bv e0' e1';obtain⟨gq,oq,cq',Md,Be,EL⟩:=dZ Bv (by omega);cases Md;obtain⟨f0,_,_⟩:=EL w7 0 rfl (by omega);have Tl:(dr.getD 0 e0).1=first:=EN
     rw[Tl]at f0;simp only[Nat.zero_mul,Nat.add_zero]at f0;have Qb:(0:Int) <(dr.length:Int):=by omega
     have T5:(q:Int) <(A7.ns.length:Int):=by omega
     have Eg:yE.Sl w7 (.slice x.2.1 x.2.2.1 x.2.2.2) es':=Ef.frm Ak fun g cs hg=>hg.type_ne Fq.v.nds.arr (by decide);have I9:b<g7.cur.length:=by rw[Kx];exact QI
     obtain⟨_,_,_,_,_,_,MS⟩:=it.wr I9;have Dt:S≠A7.ga:=it.box.type_ne it.v.nds.arr (by decide);obtain⟨i1,Mp⟩:=eZ (i+1);have wt:IntKind.i64.wrap ((i:Int)+1)=(i1:Int):=(IntWalk.i64_in _ ⟨by omega,by omega⟩).trans (by omega);rw[Mp]at py jd;have Oz:=aA (it.inserted (.slice x.2.1 x.2.2.1 x.2.2.2) es' i1 (first,.empty,(q:Int)) Eg jd (by omega) 2 I9);have GV:Hid (Frm (fun k=>k=A.ga) w w7):=(uz.out.trans (Frm.of_below ke)).trans (Ak.wide fun k _ e=>e.trans GU.out.ga);have DB:Hid (SaS A A7):=GU.out.trans Db;have U2:=aA it;clear Eg Bv EL Tl Ak Db Fq Ef fg Kx EN Mp;go_wp2;go_region_held3 (fun W=>W.cell? ⟨S,1,none⟩=some (.slice (some ⟨A7.ga,0,none⟩) A7.ns.length (A7.ns.length+A7.nj.length))) (first | assumption | go_keep | exact bU Dt de) ((go_at_call 109;refine Oz.out.mono ?_;rintro r w8 ⟨y,rfl,C8,zi,oo,de,kk0,kk1,gp,fw,jh,gh⟩));rw[dI C8];obtain⟨⟨A9,pz,Ln⟩,wj⟩:=U2.out.fin oo I9 zi py;have SV:Hid (Frm (fun k=>k=A.ga) w (set2 w8 A7.ga b y)):=GV.out.trans (wj.wide fun k _ e=>e.trans DB.out.ga);have SK:Hid (SaS A A9):=DB.out.trans Ln;have N4:=aA pz;generalize set2 w8 A7.ga b y=w9 at *;clear de gp fw jh gh wj Ln pz zi oo;by_cases lc:kl key first=true
     ·have q1:Op.bytesLess key.toList first.toList=true:=lc
      have q2:Op.bytesLess first.toList key.toList=false:=eN (a:=key) (b:=first) lc
      have q3:(key.toList == first.toList)=false:=by
       rw[beq_eq_false_iff_ne];intro e;rw[e,oP]at q1;cases q1
      rw[if_pos lc]at Ny k2 k5;have DV:=aA (ih gs c P' lo' ak k1 k2 k3 k4 k5 MO MD w9 S A9 N4.out);clear lc k1 k2 k3 k4 k5;go_wp2_with fail;refine DV.out.mono ?_;intro e w6 hz;obtain⟨v,rfl⟩:=hz.ret;have HZ:Hid (ZpP w S A (PA.map Prod.fst) (.returned (.bool v)) w6):=by
       show ZpP _ _ _ _ _ _
       rw[Ny.out];exact ZpP.trans SV.out SK.out hz
      clear hz;go_wp2;go_ret;exact HZ.out
     ·have q1:Op.bytesLess key.toList first.toList=false:=Bool.eq_false_iff.2 lc
      rw[if_neg lc]at Ny k2 k5;have DV:=aA (ih gs q P' lo' ak k1 k2 k3 k4 k5 MO MD w9 S A9 N4.out);clear k1 k2 k3 k4 k5;have lu:(Op.bytesLess first.toList key.toList=true∨(key.toList == first.toList)=true):=by
       rcases jZ (a:=key) (b:=first) q1 with e | e
       ·exact .inr (by rw[e];exact beq_self_eq_true _)
       ·exact .inl e
      clear lc;rcases lu with q2 | q3
      case' inl=>skip
      case' inr=>
       have q2:Op.bytesLess first.toList key.toList=false:=by
        have:key.toList=first.toList:=by simpa using q3
        rw[this];exact oP _
      all_goals (
       go_wp2_with fail
       refine DV.out.mono ?_;intro e w6 hz;obtain⟨v,rfl⟩:=hz.ret;have HZ:Hid (ZpP w S A (PA.map Prod.fst) (.returned (.bool v)) w6):=by
        show ZpP _ _ _ _ _ _
        rw[Ny.out];exact ZpP.trans SV.out SK.out hz
       clear hz;go_wp2;go_ret;exact HZ.out)
   ·have td:((ces.length:Int) == 5)=false:=by rw[beq_eq_false_iff_ne];omega
    have H4:Hid (stepDown f b key=some (g,c)):=by
     show stepDown f b key=_
     rw[yv.out,aE i9];exact if_neg hf5
    rw[aE i9]at zu;simp only at zu;rw[if_neg hf5]at zu;obtain⟨P',lo',ak,k1,k2,k3,k4,k5,_⟩:=Sh.out g c H4.out;have DV:=aA (ih g c P' lo' ak k1 k2 k3 k4 k5 sk BA.out w5 S A5 IA.out);rw[td];clear hf5 td fx k1 k2 k3 k4 k5;go_wp2_with fail;refine DV.out.mono ?_;intro e w6 hz;obtain⟨v,rfl⟩:=hz.ret;have HZ:Hid (ZpP w S A (PA.map Prod.fst) (.returned (.bool v)) w6):=by
     show ZpP _ _ _ _ _ _
     rw[zu.out];exact ZpP.trans uz.out GU.out hz
    clear hz;go_wp2;go_ret;exact HZ.out
