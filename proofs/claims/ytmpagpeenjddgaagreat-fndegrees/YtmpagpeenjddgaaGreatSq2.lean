import Derived.Test.YtmpagpeenjddgaaGreatGw
set_option maxHeartbeats 9999999
set_option maxRecDepth 99999
set_option linter.all false
namespace Go.Proofs.YtmpagpeenjddgaaGreat
open Go.RowKit Fo
variable{g9:Int}{nj ns:List NV}{x:NV}{S b cap g ga len o q:Nat}{nodes:Nat->Option Nd}{d:Nd}{α:Type}{u:Value}{w w':World}{f:fZ}
structure NdR(w:World)(x:NV)(d:Nd):Prop where
 k:x.1=d.1
 e:yE.Sl w (.slice x.2.1 x.2.2.1 x.2.2.2) d.2
 c:x.2.2.1<=x.2.2.2
abbrev nv0:NV:=(0,none,0,0)
structure jD(w:World)(ga:Nat)(ns nj:List NV)(nodes:Nat->Option Nd):Prop where
 arr:IsC w ga (yN.row (ns++nj)) 96
 nd:∀b d,nodes b=some d->b<ns.length/\NdR w (ns.getD b nv0) d
 small:ns.length+nj.length<=maxLen
theorem NdR.ae{S:Nat->Prop}(h:NdR w x d)(k:Frm S w w')(a:∀g cs,IsC w g cs 130->¬S g):NdR w' x d:=⟨h.k,h.e.ae k a,h.c⟩
theorem jD.ae{S:Nat->Prop}(h:jD w ga ns nj nodes)(k:Frm S w w')(c:∀g cs,IsC w g cs 130->¬S g)(e:¬S ga):jD w' ga ns nj nodes:=
 ⟨h.arr.ae k e,fun b d a=>⟨(h.nd b d a).1,(h.nd b d a).2.ae k c⟩,h.small⟩
theorem jD.below(h:jD w ga ns nj nodes)(k:Bl w w'):jD w' ga ns nj nodes:=h.ae (Frm.aa (S:=fun _=>False) k) (fun _ _ _=>id) id
theorem jD.sub{nodes':Nat->Option Nd}(h:jD w ga ns nj nodes)(c:∀b d,nodes' b=some d->nodes b=some d):jD w ga ns nj nodes':=⟨h.arr,fun b d a=>h.nd b d (c b d a),h.small⟩
theorem jD.at(h:jD w ga ns nj nodes)(hd:nodes b=some d):∃a c,yE.Sl w (.slice a d.2.length c) d.2/\b<ns.length/\ns.getD b nv0=(d.1,a,d.2.length,c)/\w.cell? (aD ga (b*2))=some (iV d.1)/\w.cell? (aD ga (b*2+1))=some (.slice a d.2.length c)/\d.2.length<=c:=by
 obtain⟨g,k,f,n⟩:=h.nd b d hd;obtain⟨a,c,l⟩:=f.len;have e:ns.getD b nv0=(d.1,a,d.2.length,c):=by
  generalize ns.getD b nv0=x at *;obtain⟨q,r,s,t⟩:=x;simp only[Value.slice.injEq]at l;obtain⟨rfl,rfl,rfl⟩:=l;simp only at k;rw[k]
 rw[e]at f n;have m:∀j,j<2->w.cell? (aD ga (b*2+j))=(aDL (d.1,a,d.2.length,c))[j]?:=fun j p=>by
  rw[h.arr.cell];have:=yN.at (ns++nj) (i:=b) (j:=j) (by simp;omega) p;have o:(ns++nj).getD b yN.z=(d.1,a,d.2.length,c):=by rw[dC,if_pos g];exact e
  rw[o]at this;exact this
 exact⟨a,c,f,g,e,m 0 (by omega),m 1 (by omega),n⟩
theorem IsC.ab{g':Nat}{cs cs':Array Value}{t t':TypeId}(h:IsC w g cs t)(a:IsC w g' cs' t')(ht:t≠t'):g≠g':=fun e=>by
 subst e;unfold IsC at h a;rw[h]at a;simp only[sJ,Obj.cells.injEq]at a;exact ht a.2.1
def K0(f:fZ)(b:Nat):List Nat:=cF (f.n b)
theorem aNA(b:Nat)(d:Nd)(h:f.n b=some d):K0 f b=kids d:=by unfold K0;rw[h];rfl
structure WkP(f:fZ)(w:World)(gc:Nat)(cj:List Int)(P:List Nat)(c':List Int)(r:Ending)(w':World):Prop where
 r:r=.returned (.tuple #[])
 j:∃e',J f (rc f.r) c' e' P
 c:IsC w' gc (y64.row (c'++cj)) 2
 ae:Frm (fun k=>k=gc) w w'
structure WkI(f:fZ)(w:World)(gc:Nat)(cj:List Int)(P:List Nat)(c':List Int)(w':World):Prop where
 j:∃e',J f (rc f.r) c' e' P
 c:IsC w' gc (y64.row (c'++cj)) 2
 ae:Frm (fun k=>k=gc) w w'
theorem aCF{ht:Nat->Nat}(y:IC f)(hh:Hts f.n ht)(hK:∀x,cu f x<=1000000)(hE:∀b d,f.n b=some d->d.2.length<=10)(ga:Nat)(ns nj:List NV):
  ∀(m b:Nat) (d:Nd) (gc:Nat) (cj c:List Int) (e:Nat->Bool) (P:List Nat) (w:World),ht b=m->f.n b=some d->jD w ga ns nj f.n->IsC w gc (y64.row (c++cj)) 2->J f (rc f.r) c e (kids d++P)->
   Calls Tryz.prog 40 #[sL ga 0 ns.length (ns.length+nj.length),iV b,sL gc 0 c.length (c.length+cj.length)] w (WkP f w gc cj P (lS (K0 f) m b c)):=by
 intro m;induction m with
 | zero=>
  intro b d gc cj c e P w hm n z A E;obtain⟨a,cp,ef,hb,_,c0,c1,_⟩:=z.at n;have s:d.1=1/\kids d=[]:=by
   rcases hh b d n with⟨q,_⟩ | ⟨q,q'⟩
   ·exact⟨q,by simp[kids,q]⟩
   ·exfalso
    rcases y.kb b d n with Q | ⟨_,Q,_⟩
    ·omega
    ·cases hl:d.2 with
     | nil=>exact Q hl
     | cons x l=>
      have:ch x∈kids d:=by simp[kids,q,hl]
      have:=q' _ this;omega
  have ie:(d.1 == 2)=false:=by rw[s.1];rfl
  rw[s.2]at E;have d5:(b:Int) <(ns.length:Int):=by omega
  have HX:Hid (WkP f w gc cj P (lS (K0 f) 0 b c) (.returned (.tuple #[])) w):=⟨rfl,⟨e,E⟩,A,Frm.refl _ _⟩;clear s E A;go_enter Tryz.func40,Tryz.ntmps40;go_wp2;refine bodyPost_ret (v:=.tuple #[]) (by simp[results,Tryz.f40,go_sem]) rfl ?_;exact HX.out
 | succ m ih=>
  intro b d gc cj c e P w hm n z A E;obtain⟨a,cp,ef,hb,_,c0,c1,_⟩:=z.at n;have s:d.1=2/\∀k∈kids d,ht k=m:=by
   rcases hh b d n with⟨_,q⟩ | ⟨q,q'⟩
   ·omega
   ·exact⟨q,fun k s=>by have:=q' k s;omega⟩
  have N:kids d=d.2.map ch:=by rw[kids,if_pos s.1]
  have ie:(d.1 == 2)=true:=by rw[s.1];rfl
  have d5:(b:Int) <(ns.length:Int):=by omega
  have LB:ga≠gc:=z.arr.ab A (by decide);have X:Hid (c.length=f.c.length):=E.len;have zq:=hE b d n;have Bq:d.2≠[]:=by
   rcases y.kb b d n with Q | ⟨_,Q,_⟩
   ·omega
   ·exact Q
  obtain⟨g,o,cp',he,hg,U⟩:=eG ef (List.length_pos_iff.2 Bq);cases he;have bu:g≠gc:=by
   rcases ef with⟨q,_⟩ | ⟨g',o',cap',xs,q,q1,_⟩
   ·cases q
   ·cases q;exact q1.ab A (by decide)
  have HW:Hid (lS (K0 f) (m+1) b c=(kids d).foldl (vis (K0 f) m) c):=by show _=_;rw[nG,aNA b d n]
  generalize lS (K0 f) (m+1) b c=cW at *;go_enter Tryz.func40,Tryz.ntmps40;go_wp2;go_loopw [6,7] (fun i _ wr=>∃j:Nat,j<=d.2.length/\i=iV j/\WkI f w gc cj ((kids d).drop j++P) (((kids d).take j).foldl (vis (K0 f) m) c) wr) (fun i _ _=>d.2.length -(intOf i).toNat)
  case atStart=>exact⟨0,by omega,rfl,⟨e,by simpa using E⟩,by simpa using A,Frm.refl _ _⟩
  case round=>
   obtain⟨j,hj,rfl,⟨⟨e1,t⟩,I,M⟩⟩:=hrel;have c0':wr.cell? (aD ga (b*2))=some (iV d.1):=by rw[<-c0];simp[World.cell?,M.block ga z.arr.lt LB]
   have c1':wr.cell? (aD ga (b*2+1))=some (sL g o d.2.length cp):=by rw[<-c1];simp[World.cell?,M.block ga z.arr.lt LB]
   by_cases H:j<d.2.length
   ·obtain⟨x0,x1,x2⟩:=U wr j (M.block g hg bu) H
    have eX:(j:Int) <(d.2.length:Int):=by omega
    have bz:0<=(d.2.getD j e0).2.2:=by
     have gy:f.n b=some (2,d.2):=by rw[n,<-s.1]
     exact y.ar gy H
    obtain⟨k,O⟩:=eZ (kd d.2 j);have me:(d.2.getD j e0).2.2=(k:Int):=by rw[<-O];unfold kd ch;omega
    rw[me]at x2;have Dl:k∈kids d:=by
     have gy:d=(2,d.2):=by rw[<-s.1]
     rw[gy,<-O];exact aR H
    obtain⟨dk,Y⟩:=y.af n Dl;have vn:k<f.c.length:=y.lt Y;have T:(kids d).drop j=k ::(kids d).drop (j+1):=by
     rw[N,List.drop_eq_getElem_cons (by simpa using H)];congr 1;rw[<-O];unfold kd;rw[List.getElem_map,gD,gE H];rfl
    rw[T,List.cons_append]at t;have Ho:(kids d).take (j+1)=(kids d).take j++[k]:=by
     rw[List.take_add_one];congr 1;have:(kids d)[j]?=some k:=by
      have:=congrArg List.head? T
      rw[List.head?_drop]at this;simpa using this
     rw[this];rfl
    have u:Hid (((kids d).take (j+1)).foldl (vis (K0 f) m) c=vis (K0 f) m (((kids d).take j).foldl (vis (K0 f) m) c) k):=by
     show _=_
     rw[Ho,List.foldl_append];rfl
    have lq:=t.len;rw[<-X.out]at lq;have W:=t.le y k;have X4:=hK k;rw[<-X.out]at vn;generalize ((kids d).take j).foldl (vis (K0 f) m) c=h at *;have V:k<h.length:=by omega
    obtain⟨x,F⟩:=eZ (h.getD k 0);have y0:=eD I V;have z0:=I.frozen k;have G:=iH I V (x+1);have MK:(k:Int) <(c.length:Int):=by omega
    rw[F]at W y0;have O7:IntKind.i64.wrap (x+1)=x+1:=IntWalk.i64_in _ ⟨by omega,by omega⟩;have C:Hid (eW h k=h.set k (x+1)):=by show _=_;unfold eW;rw[F]
    obtain⟨R,de⟩:=eZ (wr.setCell (aD gc k) (iV (x+1)));rw[de]at G;have dz:Frm (fun k=>k=gc) w R:=M.trans (by rw[<-de];exact Frm.set (S:=fun k=>k=gc) wr (p:=aD gc k) rfl _);have LN:k <(h.set k (x+1)).length:=by simpa using V
    have y2:=eD G LN;have K:(h.set k (x+1)).getD k 0=x+1:=by rw[dI,if_pos ⟨rfl,V⟩]
    rw[K]at y2;have uf:jD R ga ns nj f.n:=z.ae dz (fun g cs hg=>hg.ab A (by decide)) LB;have ah:(h.set k (x+1)).length=c.length:=by rw[List.length_set];omega
    by_cases D:x=0
    ·have B:=t.first y Y (F.trans D)
     have L:vis (K0 f) m h k=lS (K0 f) m k (eW h k):=by
      unfold vis;rw[if_pos (by rw[C.out,K,D];rfl)]
     rw[L]at u;rw[C.out]at u B;have z8:=ih k dk gc cj _ _ _ R (s.2 k Dl) Y uf G B;rw[ah]at z8;have AG:((x+1:Int) == 1)=true:=by rw[D];rfl
     have Ql:Hid (Calls Tryz.prog 40 #[sL ga 0 ns.length (ns.length+nj.length),iV k,sL gc 0 c.length (c.length+cj.length)] R fun r w'=>r=.returned (.tuple #[])/\WkI f w gc cj ((kids d).drop (j+1)++P) (((kids d).take (j+1)).foldl (vis (K0 f) m) c) w'):=by
      refine z8.mono ?_;rintro r w3 ⟨rfl,k1,k2,k3⟩;rw[u.out];exact⟨rfl,k1,k2,dz.trans k3⟩
     clear U t B G K W D C uf L z8 u ah F O me T Ho N lq;go_wp2_with fail;refine Ql.out.mono ?_;rintro r w3 ⟨rfl,ni⟩;go_wp2;go_roundw
     case rel=>exact⟨j+1,by omega,by go_num,ni⟩
     case measure=>simp[intOf];omega
    ·have B:=t.more (by rw[<-X.out];exact vn) (by rw[F];exact D)
     have L:vis (K0 f) m h k=eW h k:=by
      unfold vis;rw[if_neg (by rw[C.out,K];omega)]
     rw[L]at u;rw[C.out]at u B;have AG:((x+1:Int) == 1)=false:=by rw[beq_eq_false_iff_ne];omega
     have Z:Hid (WkI f w gc cj ((kids d).drop (j+1)++P) (((kids d).take (j+1)).foldl (vis (K0 f) m) c) R):=by
      show WkI _ _ _ _ _ _ _
      rw[u.out];exact⟨⟨_,B⟩,G,dz⟩
     clear U t B G K W D C uf L u ah F O me T Ho N lq;go_wp2;go_roundw
     case rel=>exact⟨j+1,by omega,by go_num,Z.out⟩
     case measure=>simp[intOf];omega
   ·obtain rfl:j=d.2.length:=by omega
    have e1':(kids d).length=d.2.length:=by rw[N];simp
    rw[List.drop_of_length_le (by omega),List.nil_append]at t;rw[List.take_of_length_le (by omega),<-HW.out]at t I;have Z:Hid (WkP f w gc cj P cW (.returned (.tuple #[])) wr):=⟨rfl,⟨e1,t⟩,I,M⟩;clear U t N;go_wp2;refine bodyPost_ret (v:=.tuple #[]) (by simp[results,Tryz.f40,go_sem]) rfl ?_;exact Z.out
structure SA where
 ga:Nat
 ns:List NV
 nj:List NV
 gr:Nat
 rj:List (Int×Int)
 cv:Value
 tv:Value
def aL(A:SA)(f:fZ):Array Value:=#[iV f.c.length,sL A.ga 0 A.ns.length (A.ns.length+A.nj.length),sL A.gr 0 f.r.length (f.r.length+A.rj.length),iV f.next,iV f.gen,A.cv,A.tv]
structure SpV(w:World)(A:SA)(f:fZ):Prop where
 aq:jD w A.ga A.ns A.nj f.n
 ln:A.ns.length=f.c.length
 bp:IsC w A.gr (yT.row (f.r++A.rj)) 92
 rs:f.r.length+A.rj.length<=maxLen
 m:y64.Sl w A.cv f.m
structure Sp(w:World)(S:Nat)(A:SA)(f:fZ):Prop where
 box:IsC w S (aL A f) 58
 v:SpV w A f
theorem SpV.ae{Z:Nat->Prop}{A:SA}(h:SpV w A f)(k:Frm Z w w')(a:∀g cs t,(t=130\/t=96\/t=92\/t=2)->IsC w g cs t->¬Z g):SpV w' A f:=
 ⟨h.aq.ae k (fun g cs b=>a g cs _ (.inl rfl) b) (a _ _ _ (.inr (.inl rfl)) h.aq.arr),h.ln,h.bp.ae k (a _ _ _ (.inr (.inr (.inl rfl))) h.bp),h.rs,h.m.ae k fun g cs b=>a g cs _ (.inr (.inr (.inr rfl))) b⟩
theorem SpV.below{A:SA}(h:SpV w A f)(k:Bl w w'):SpV w' A f:=h.ae (Frm.aa (S:=fun _=>False) k) fun _ _ _ _ _=>id
theorem Sp.below{A:SA}(h:Sp w S A f)(k:Bl w w'):Sp w' S A f:=⟨h.box.of (k.block _ h.box.lt),h.v.below k⟩
theorem Sp.cells{A:SA}(h:Sp w S A f):w.cell? (aD S 0)=some (iV f.c.length)/\w.cell? (aD S 1)=some (sL A.ga 0 A.ns.length (A.ns.length+A.nj.length))/\w.cell? (aD S 2)=some (sL A.gr 0 f.r.length (f.r.length+A.rj.length))/\w.cell? (aD S 3)=some (iV f.next)/\w.cell? (aD S 4)=some (iV f.gen)/\w.cell? (aD S 5)=some A.cv/\w.cell? (aD S 6)=some A.tv:=by
 refine⟨?_,?_,?_,?_,?_,?_,?_⟩<;>rw[h.box.cell]<;>rfl
theorem SpV.root{A:SA}(h:SpV w A f){t:Nat}(ht:t<f.r.length):w.cell? (aD A.gr (t*2))=some (iV (f.r.getD t (0,0)).1)/\w.cell? (aD A.gr (t*2+1))=some (iV (f.r.getD t (0,0)).2):=by
 have a:∀j,j<2->w.cell? (aD A.gr (t*2+j))=(aW (f.r.getD t (0,0)))[j]?:=fun j c=>by
  rw[h.bp.cell];have:=yT.at (f.r++A.rj) (i:=t) (j:=j) (by simp;omega) c;have b:(f.r++A.rj).getD t yT.z=f.r.getD t (0,0):=by rw[dC,if_pos ht];rfl
  rw[b]at this;exact this
 exact⟨a 0 (by omega),a 1 (by omega)⟩
structure CuI(f:fZ)(w:World)(B gc:Nat)(cj:List Int)(P:List Nat)(c':List Int)(w':World):Prop where
 j:∃e',J f (rc f.r) c' e' P
 c:IsC w' gc (y64.row (c'++cj)) 2
 ae:Below B w w'
theorem iL(m:IC f)(hK:∀x,cu f x<=1000000)(hE:∀b d,f.n b=some d->d.2.length<=10)(w:World)(S:Nat)(A:SA)(h:Sp w S A f)(kz:f.r.length<=100):
  Calls Tryz.prog 24 #[pT S 0] w fun r w'=>∃u,r=.returned u/\y64.Own w.heap.size w' u f.c/\Bl w w':=by
 obtain⟨ht,hh⟩:=m.ht;obtain⟨s0,s1,s2,_⟩:=h.cells;have h8:=m.n8;have h5:=m.al;have HC:=aA (aDO m hh (K:=K0 f) fun b d hd=>aNA b d hd);have pn:=J.start f;unfold aPB at HC;go_enter Tryz.func24,Tryz.ntmps24;go_wp2_with fail;refine(qE f.c.length h5 w).mono ?_;rintro r w1 ⟨u,rfl,⟨ag,o,rfl,M,lj⟩,ao⟩;obtain⟨a,rfl⟩:∃g,ag=some g:=by
  cases ag with
  | none=>have:=(M.nil rfl).1;have:=congrArg List.length this;rw[List.length_replicate,List.length_nil]at this;omega
  | some g=>exact⟨g,rfl⟩
 have zi:IsC w1 a (y64.row (List.replicate f.c.length 0++o)) 2:=M.arr a rfl;have X:=lj a rfl;have mw:=M.small;simp only[adr,Option.map_some,List.length_replicate]at mw |-;have Rq:=h.box.lt;have HZ:Hid (List.replicate f.c.length (0:Int)=List.replicate f.c.length 0):=rfl;generalize List.replicate f.c.length (0:Int)=zs at *;have hN:=h.v.aq;have HN:=aA hN;have E:=aA fun(w':World) (Y:Bl w w')=>(h.below Y).v;have HB:=aA fun(w':World) (Y:Bl w w')=>(h.below Y).cells;clear M lj h8;go_wp2;go_loopw [4,5] (fun i _ wr=>∃j:Nat,j<=f.r.length/\i=iV j/\CuI f w w.heap.size a o (((f.r.map fun r=>r.2.toNat)).drop j) (((f.r.map fun r=>r.2.toNat).take j).foldl (fun c r=>vis (K0 f) (ht r) c r) zs) wr) (fun i _ _=>f.r.length -(intOf i).toNat)
 case atStart=>exact⟨0,by omega,rfl,⟨_,by simpa using pn⟩,by simpa using zi,ao⟩
 case round=>
  obtain⟨j,hj,rfl,⟨⟨e1,s⟩,y,I⟩⟩:=hrel;obtain⟨t0,t1,t2,_⟩:=HB.out wr I;have R:=(E.out wr I).aq;by_cases L:j<f.r.length
  ·obtain⟨r0,r1⟩:=(E.out wr I).root L
   have eX:(j:Int) <(f.r.length:Int):=by omega
   obtain⟨k,O⟩:=eZ (aB f j);have FR:=aQ L;have N:(f.r.getD j (0,0)).2=(k:Int):=by rw[<-O];unfold aB;have:=(m.rb _ FR).1;omega
   rw[N]at r1;obtain⟨dk,D⟩:=m.ao FR;rw[N]at D;simp only[Int.toNat_natCast]at D;have vn:=m.lt D;have Q:(f.r.map fun r=>r.2.toNat)[j]?=some k:=by
    rw[List.getElem?_map,gE L];rw[<-O];unfold aB;rw[gD,gE L];rfl
   have V:(f.r.map fun r=>r.2.toNat).drop j=k ::(f.r.map fun r=>r.2.toNat).drop (j+1):=by
    obtain⟨q,hy⟩:=List.getElem?_eq_some_iff.1 Q;rw[List.drop_eq_getElem_cons q,hy]
   have U:(f.r.map fun r=>r.2.toNat).take (j+1)=(f.r.map fun r=>r.2.toNat).take j++[k]:=by
    rw[List.take_add_one,Q];rfl
   rw[V]at s;have n:Hid (((f.r.map fun r=>r.2.toNat).take (j+1)).foldl (fun c r=>vis (K0 f) (ht r) c r) zs=vis (K0 f) (ht k) (((f.r.map fun r=>r.2.toNat).take j).foldl (fun c r=>vis (K0 f) (ht r) c r) zs) k):=by
    show _=_
    rw[U,List.foldl_append];rfl
   have lq:=s.len;have T:=s.le m k;have X4:=hK k;generalize ((f.r.map fun r=>r.2.toNat).take j).foldl (fun c r=>vis (K0 f) (ht r) c r) zs=l at *;have P:k<l.length:=by omega
   obtain⟨x,q⟩:=eZ (l.getD k 0);have y0:=eD y P;have z0:=y.frozen k;have C:=iH y P (x+1);have MK:(k:Int) <(f.c.length:Int):=by omega
   rw[q]at T y0;have O7:IntKind.i64.wrap (x+1)=x+1:=IntWalk.i64_in _ ⟨by omega,by omega⟩;have v:Hid (eW l k=l.set k (x+1)):=by show _=_;unfold eW;rw[q]
   obtain⟨B,de⟩:=eZ (wr.setCell (aD a k) (iV (x+1)));rw[de]at C;have F:Bl w B:=I.trans (by rw[<-de];exact(bQ _ wr).setCell (p:=aD a k) X _);have LN:k <(l.set k (x+1)).length:=by simpa using P
   have y2:=eD C LN;have G:(l.set k (x+1)).getD k 0=x+1:=by rw[dI,if_pos ⟨rfl,P⟩]
   rw[G]at y2;have Z:=(E.out B F).aq;obtain⟨v0,v1,v2,_⟩:=HB.out B F;have W:(l.set k (x+1)).length=f.c.length:=by rw[List.length_set];omega
   by_cases z:x=0
   ·have t:=s.first m D (q.trans z)
    have H:vis (K0 f) (ht k) l k=lS (K0 f) (ht k) k (eW l k):=by
     unfold vis;rw[if_pos (by rw[v.out,G,z];rfl)]
    rw[H]at n;rw[v.out]at n t;have z8:=aCF m hh hK hE A.ga A.ns A.nj (ht k) k dk a o _ _ _ B rfl D Z C t;rw[W]at z8;have AG:((x+1:Int) == 1)=true:=by rw[z];rfl
    have Ql:Hid (Calls Tryz.prog 40 #[sL A.ga 0 A.ns.length (A.ns.length+A.nj.length),iV k,sL a 0 f.c.length (f.c.length+o.length)] B fun r w'=>r=.returned (.tuple #[])/\CuI f w w.heap.size a o (((f.r.map fun r=>r.2.toNat)).drop (j+1)) (((f.r.map fun r=>r.2.toNat).take (j+1)).foldl (fun c r=>vis (K0 f) (ht r) c r) zs) w'):=by
     refine z8.mono ?_;rintro r w3 ⟨rfl,k1,k2,k3⟩;rw[n.out];exact⟨rfl,k1,k2,F.trans (k3.below F.size fun k e=>by rw[e];exact X)⟩
    clear s t C G T z v Z H z8 n W q O N V U lq Q R;go_wp2_with fail;refine Ql.out.mono ?_;rintro r w3 ⟨rfl,ni⟩;go_wp2;go_roundw
    case rel=>exact⟨j+1,by omega,by go_num,ni⟩
    case measure=>simp[intOf];omega
   ·have t:=s.more (vn) (by rw[q];exact z)
    have H:vis (K0 f) (ht k) l k=eW l k:=by
     unfold vis;rw[if_neg (by rw[v.out,G];omega)]
    rw[H]at n;rw[v.out]at n t;have AG:((x+1:Int) == 1)=false:=by rw[beq_eq_false_iff_ne];omega
    have E:Hid (CuI f w w.heap.size a o (((f.r.map fun r=>r.2.toNat)).drop (j+1)) (((f.r.map fun r=>r.2.toNat).take (j+1)).foldl (fun c r=>vis (K0 f) (ht r) c r) zs) B):=by
     show CuI _ _ _ _ _ _ _ _
     rw[n.out];exact⟨⟨_,t⟩,C,F⟩
    clear s t C G T z v Z H n W q O N V U lq Q R;go_wp2;go_roundw
    case rel=>exact⟨j+1,by omega,by go_num,E.out⟩
    case measure=>simp[intOf];omega
  ·obtain rfl:j=f.r.length:=by omega
   rw[List.take_of_length_le (by simp),HC.out]at y;have HX:Hid (y64.Own w.heap.size wr (sL a 0 f.c.length (f.c.length+o.length)) f.c):=⟨some a,o,rfl,⟨fun g e=>(by cases e;exact y),fun e=>(by cases e),mw⟩,fun g e=>(by cases e;exact X)⟩;clear y s R;go_wp2;go_ret;exact⟨_,rfl,HX.out,I⟩
theorem nI{l:List Int}(h:y64.Sl w u l)(d:0<l.length):∃g o c,u=sL g o l.length c/\g<w.heap.size/\(∃cs,IsC w g cs 2)/\∀(w':World) (i:Nat),(w'.heap[g]?=w.heap[g]?)->i<l.length->w'.cell? (aD g (o+i))=some (iV (l.getD i 0)):=by
 rcases h with⟨rfl,rfl⟩ | ⟨g,o,a,xs,rfl,b,f,j⟩
 ·simp at d
 ·obtain⟨g',t,s,e,p,m⟩:=(show y64.Sl w (sL g (o*y64.n) l.length a) l from .inr ⟨g,o,a,xs,rfl,b,f,j⟩).at d
  cases e
  refine⟨g,_,_,rfl,p,⟨_,b⟩,fun w' i n q=>?_⟩;have r:∀k,w'.cell? (aD g k)=w.cell? (aD g k):=fun k=>by simp[World.cell?,n]
  have:=m i 0 q (by decide)
  have e:o*y64.n+i*y64.n+0=o*y64.n+i:=by show o*1+i*1+0=o*1+i;omega
  rw[e]at this;rw[r];exact this
theorem aCY(h:∀x,x<b->frB f g9 x=false)(a:frB f g9 b=true)(c:b<f.c.length):mN f g9=(b:Int):=by
 unfold mN;have:(List.range f.c.length).find? (frB f g9)=some b:=by
  rw[List.find?_range_eq_some];exact⟨a,by simpa using c,fun x d=>by rw[h x d];rfl⟩
 rw[this]
theorem aCX(h:∀x,x<f.c.length->frB f g9 x=false):mN f g9=-1:=by
 unfold mN;have:(List.range f.c.length).find? (frB f g9)=none:=by
  rw[List.find?_eq_none];intro x a;rw[h x (List.mem_range.1 a)];simp
 rw[this]
theorem nA(g:IC f)(I:∀x,cu f x<=1000000)(H:∀b d,f.n b=some d->d.2.length<=10)(w:World)(S:Nat)(A:SA)(h:Sp w S A f)(J:f.r.length<=100)(c:Int):
  Calls Tryz.prog 70 #[pT S 0,iV c] w fun r w'=>r=.returned (iV (mN f c))/\Bl w w':=by
 have U:=g.n8;have T:=g.al;go_enter Tryz.func70,Tryz.ntmps70;go_wp2_with fail;refine(iL g I H w S A h J).mono ?_;rintro r w1 ⟨u,rfl,E,p⟩;obtain⟨Q,Y,O,rfl,N,_,n⟩:=nI E.sl (by omega);have D:=h.below p;obtain⟨s0,_,_,_,_,K,_⟩:=D.cells;obtain⟨R,Z,P,F,L,_,v⟩:=nI D.v.m (by rw[g.len];omega);rw[F]at K;have B:Hid (f.m.length=f.c.length):=g.len;clear F E;go_wp2;go_loopw [6] (fun i wr=>∃k:Nat,2<=k/\k<=f.c.length/\i=iV k/\Is2 (.bool false) (.bool false) wr w1/\Hid (∀x,x<k->frB f c x=false)) (fun i _=>f.c.length -(intOf i).toNat)
 case atStart=>exact⟨2,by omega,by omega,rfl,⟨rfl,rfl⟩,fun x V=>by unfold frB;rw[decide_eq_false (by omega)];simp⟩
 case round=>
  obtain⟨k,G,vn,rfl,⟨_,rfl⟩,s⟩:=hrel;by_cases o:k<f.c.length
  ·have x0:=n wr k rfl o
   have x1:=v wr k rfl (by rw[B.out];exact o);have X:(k:Int) <(f.c.length:Int):=by omega
   have M:(k:Int) <(f.m.length:Int):=by rw[B.out];omega
   have a:Hid (frB f c k=(decide (2<=k) && (f.c.getD k 0 == 0) && (f.m.getD k 0 == 0) && !((k:Int) == c))):=rfl;rw[decide_eq_true G]at a;generalize f.c.getD k 0=x at *;generalize f.m.getD k 0=y at *;have l:Hid (frB f c k=false->∀x,x<k+1->frB f c x=false):=fun q z W=>by
    by_cases e:z=k
    ·rw[e];exact q
    ·exact s.out z (by omega)
   clear n v;cases j:(x == 0)with
   | false=>
    rw[j]at a;go_wp2;go_roundw
    case rel=>exact⟨k+1,by omega,by omega,by go_num,⟨rfl,rfl⟩,l.out (by rw[a.out];rfl)⟩
    case measure=>simp[intOf];omega
   | true=>
    cases t:(y == 0)with
    | false=>
     rw[j,t]at a;go_wp2;go_roundw
     case rel=>exact⟨k+1,by omega,by omega,by go_num,⟨rfl,rfl⟩,l.out (by rw[a.out];rfl)⟩
     case measure=>simp[intOf];omega
    | true=>
     cases C:((k:Int) == c)with
     | true=>
      rw[j,t,C]at a;go_wp2;go_roundw
      case rel=>exact⟨k+1,by omega,by omega,by go_num,⟨rfl,rfl⟩,l.out (by rw[a.out];rfl)⟩
      case measure=>simp[intOf];omega
     | false=>
      rw[j,t,C]at a;have m:=aA (aCY s.out (by rw[a.out];rfl) o);go_wp2;go_ret;exact⟨by rw[m.out];rfl,p⟩
  ·obtain rfl:k=f.c.length:=by omega
   have m:=aA (aCX s.out);clear n v;go_wp2;go_ret;exact⟨by rw[m.out];rfl,p⟩
def set2(w:World)(g q:Nat)(x:NV):World:=(w.setCell (aD g (q*2)) (iV x.1)).setCell (aD g (q*2+1)) (.slice x.2.1 x.2.2.1 x.2.2.2)
theorem eL(w:World)(g q:Nat)(x:NV):Frm (fun k=>k=g) w (set2 w g q x):=(Frm.set (S:=fun k=>k=g) w (p:=aD g (q*2)) rfl _).trans (Frm.set (S:=fun k=>k=g) _ (p:=aD g (q*2+1)) rfl _)
theorem aOT(l:List NV)(q:Nat)(x:NV)(h:q<l.length):((yN.row l).setIfInBounds (q*2) (iV x.1)).setIfInBounds (q*2+1) (.slice x.2.1 x.2.2.1 x.2.2.2)=yN.row (l.set q x):=by
 unfold Ely.row;rw[List.setIfInBounds_toArray,List.setIfInBounds_toArray];congr 1;induction l generalizing q with
 | nil=>simp at h
 | cons a l ih=>
  cases q with
  | zero=>rfl
  | succ q=>
   simp only[List.flatMap_cons,List.set_cons_succ];have e:yN.cell a=[iV a.1,.slice a.2.1 a.2.2.1 a.2.2.2]:=rfl;rw[e];have b:(q+1)*2=q*2+1+1:=by omega
   rw[b];show [_,_]++((l.flatMap yN.cell).set (q*2) _).set (q*2+1) _=_
   rw[ih q (by simpa using h)]
theorem jD.set2(h:jD w ga ns nj nodes)(c:q<ns.length)(hx:NdR w x d):jD (Go.Proofs.YtmpagpeenjddgaaGreat.set2 w ga q x) ga (ns.set q x) nj (upd nodes q (some d)):=by
 have hF:=eL w ga q x;have f:∀g cs,IsC w g cs 130->¬g=ga:=fun g cs i=>i.ab h.arr (by decide);refine⟨?_,fun b d' a=>?_,by simpa using h.small⟩
 ·have:=(h.arr.set (q*2) (iV x.1)).set (q*2+1) (.slice x.2.1 x.2.2.1 x.2.2.2)
  rw[aOT _ _ _ (by simp;omega),List.set_append_left _ _ c]at this;exact this
 ·rw[List.length_set,bF _ _ _ _ _ c]
  by_cases e:b=q
  ·rw[e,aE]at a
   cases a
   rw[if_pos e];exact⟨by rw[e];exact c,hx.ae hF f⟩
  ·rw[aC _ _ e]at a
   rw[if_neg e];exact⟨(h.nd b d' a).1,(h.nd b d' a).2.ae hF f⟩
def SA.setN(A:SA)(q:Nat)(x:NV):SA:={A with ns:=A.ns.set q x}
theorem Sp.set2{A:SA}(h:Sp w S A f)(b:q<f.c.length)(hx:NdR w x d):Sp (Go.Proofs.YtmpagpeenjddgaaGreat.set2 w A.ga q x) S (A.setN q x) (setN f q d):=by
 have hF:=eL w A.ga q x;have a:=h.v.aq.arr;refine⟨?_,h.v.aq.set2 (by rw[h.v.ln];exact b) hx,by simp[SA.setN,h.v.ln,Fo.setN],h.v.bp.ae hF (h.v.bp.ab a (by decide)),h.v.rs,h.v.m.ae hF fun g cs k=>k.ab a (by decide)⟩;have:=h.box.ae hF (h.box.ab a (by decide));have e:aL (A.setN q x) (Fo.setN f q d)=aL A f:=by simp[aL,SA.setN,Fo.setN]
 rw[e];exact this
theorem Sp.sub{A:SA}{g:fZ}(h:Sp w S A f)(hn:∀b d,g.n b=some d->f.n b=some d)(a:g.c.length=f.c.length)(hr:g.r=f.r)(h1:g.next=f.next)(h2:g.gen=f.gen)(h3:g.m=f.m):Sp w S A g:=by
 refine⟨?_,h.v.aq.sub hn,by rw[a];exact h.v.ln,by rw[hr];exact h.v.bp,by rw[hr];exact h.v.rs,by rw[h3];exact h.v.m⟩;have e:aL A g=aL A f:=by unfold aL;rw[a,hr,h1,h2]
 rw[e];exact h.box
theorem jK(w:World)(g q:Nat)(a c:Value)(h:b≠g\/(o≠q*2/\o≠q*2+1)):((w.setCell (aD g (q*2)) a).setCell (aD g (q*2+1)) c).drew.cell? (aD b o)=w.cell? (aD b o):=by
 show((w.setCell (aD g (q*2)) a).setCell (aD g (q*2+1)) c).cell? (aD b o)=_
 rw[World.cell?_setCell_other,World.cell?_setCell_other]
 ·intro e;simp only[Addr.mk.injEq]at e;omega
 ·intro e;simp only[Addr.mk.injEq]at e;omega
theorem Sp.drew{A:SA}(h:Sp w S A f):Sp w.drew S A f:=h.below (bQ _ w).drew
theorem Sp.wr{A:SA}(h:Sp w S A f)(c:q<f.c.length):∃k0 k1,w.cell? (aD A.ga (q*2))=some k0/\w.cell? (aD A.ga (q*2+1))=some k1/\w.frozen? (aD A.ga (q*2))=false/\w.frozen? (aD A.ga (q*2+1))=false/\(q:Int) <(A.ns.length:Int):=by
 have b:=h.v.ln;have a:(yN.row (A.ns++A.nj)).size=(A.ns++A.nj).length*2:=yN.size _;rw[lP]at a;refine⟨(yN.row (A.ns++A.nj))[q*2]'(by omega),(yN.row (A.ns++A.nj))[q*2+1]'(by omega),?_,?_,h.v.aq.arr.frozen _,h.v.aq.arr.frozen _,by omega⟩
 ·rw[h.v.aq.arr.cell,Array.getElem?_eq_getElem]
 ·rw[h.v.aq.arr.cell,Array.getElem?_eq_getElem]
structure ZhP(w:World)(S:Nat)(A:SA)(f:fZ)(p:Nat)(d:Nd)(r:Ending)(w':World):Prop where
 own:own f p->r=.returned (iV p)/\Bl w w'
 no:¬Fo.own f p->aG f=0->r=.returned (iV (-1))/\Bl w w'
 yes:¬Fo.own f p->aG f≠0->r=.returned (iV (aG f))/\Sp w' S (A.setN (aG f) (A.ns.getD p nv0)) (setN f (aG f) d)/\Frm (fun k=>k=A.ga) w w'
theorem oI(i:IC f)(J:∀b d,f.n b=some d->d.2.length<=10)(w:World)(S:Nat)(A:SA)(h:Sp w S A f)(kz:f.r.length<=16)(p:Nat)(d:Nd)(hd:f.n p=some d):
  Calls Tryz.prog 69 #[pT S 0,iV p] w (ZhP w S A f p d):=by
 have Y:=i.counts kz J;have h8:=i.n8;have tj:=i.lt hd;obtain⟨_,s1,_,_,_,s5,_⟩:=h.cells;obtain⟨gm,om,cm,uh,BF,_,zg⟩:=nI h.v.m (by rw[i.len];omega);rw[uh]at s5;have Cm:(p:Int) <(f.m.length:Int):=by rw[i.len];omega
 have x0:=zg w p rfl (by rw[i.len];exact tj);have HC:Hid (co f p=f.m.getD p 0):=rfl;have HU:Hid (cu f p=f.c.getD p 0):=rfl;have Q:=iL i Y J w S A h (by omega);have HT:=aA (nD f);have Ho:Hid (∀w',Bl w w'->Calls Tryz.prog 70 #[pT S 0,iV (-1)] w' fun r j=>r=.returned (iV (mN f (-1)))/\Bl w j):=fun w' s=>
  (nA i Y J w' S A (h.below s) (by omega) (-1)).mono fun r j Z=>⟨Z.1,s.trans (Z.2.mono s.size)⟩
 clear zg uh;obtain⟨y,M⟩:=eZ (f.m.getD p 0);rw[M]at x0;have v:Hid (Fo.own f p↔f.c.getD p 0=1/\y=0):=by rw[<-M];exact Iff.rfl
 clear M HC HU;obtain⟨x,L⟩:=eZ (f.c.getD p 0);have V:Hid (Calls Tryz.prog 24 #[pT S 0] w fun r w'=>∃g o c,r=.returned (sL g o f.c.length c)/\w'.cell? (aD g (o+p))=some (iV x)/\Bl w w'):=by
  refine Q.mono ?_;rintro r w1 ⟨u,rfl,hu,m⟩;obtain⟨I,O,G,rfl,bu,_,aa⟩:=nI hu.sl (by omega);have:=aa w1 p rfl tj;rw[L]at this;exact⟨I,O,G,rfl,this,m⟩
 rw[L]at v;clear L Q;have hpI:(p:Int) <(f.c.length:Int):=by omega
 have HS:=aA fun(w':World) (s:Bl w w')=>h.below s;go_enter Tryz.func69,Tryz.ntmps69;by_cases t:x=1/\y=0
 ·have X:Hid (Fo.own f p):=v.out.2 t
  obtain⟨rfl,rfl⟩:=t;go_wp2_with fail;refine V.out.mono ?_;rintro r w1 ⟨I,O,G,rfl,z0,m⟩;go_wp2;go_ret;exact⟨fun _=>⟨rfl,m⟩,fun q=>absurd X.out q,fun q=>absurd X.out q⟩
 ·have R:Hid (¬Fo.own f p):=fun q=>t (v.out.1 q)
  by_cases z:y=0
  case' pos=>
   have ex:(x == 1)=false:=by rw[beq_eq_false_iff_ne];exact fun q=>t ⟨q,z⟩
   clear v;subst z;clear t;go_wp2_with fail;refine V.out.mono ?_;rintro r w1 ⟨I,O,G,rfl,z0,m⟩;go_wp2_with fail
  case' neg=>
   have ey':(y == 0)=false:=by simpa using z
   have m:Bl w w:=bQ _ _;clear v t z;obtain⟨w1,bx⟩:∃w1,w1=w:=⟨_,rfl⟩;go_wp2_with fail
  all_goals (
   refine(Ho.out _ m).mono ?_;rintro r j ⟨rfl,E⟩;rw[HT.out];by_cases l:aG f=0
   ·rw[if_pos l]
    have HL:=aA l;clear l;go_wp2;go_ret;exact⟨fun q=>absurd q R.out,fun _ _=>⟨rfl,E⟩,fun _ q=>absurd HL.out q⟩
   ·rw[if_neg l]
    obtain⟨_,N,al,_⟩:=aP l;have n:=HS.out j E;obtain⟨_,Lq,_⟩:=n.cells;obtain⟨a,c,ef,s,D,c0,c1,_⟩:=n.v.aq.at hd;obtain⟨k0,k1,iN,ie,jw,ix,ZO⟩:=n.wr N;have U:=(n.v.aq.nd p d hd).2;have H:=n.set2 N U;have au:p≠aG f:=fun e=>by have:=i.a7 hd;rw[e]at this;omega
    have F:=(Frm.aa (S:=fun k=>k=A.ga) E).trans (eL j A.ga (aG f) (A.ns.getD p nv0));rw[D]at H F;have Zh:(p:Int) <(A.ns.length:Int):=by rw[h.v.ln];omega
    have T:Hid (∀P,P=(set2 j A.ga (aG f) (d.1,a,d.2.length,c)).drew->ZhP w S A f p d (.returned (iV (aG f))) P):=fun P e=>by
     rw[e];exact⟨fun q=>absurd q R.out,fun _ q=>absurd q l,fun _ _=>⟨rfl,by rw[D];exact H.drew,F.trans (Frm.drew _ _)⟩⟩
    obtain⟨q,K⟩:=eZ (aG f);rw[K]at jw ix iN ie au ZO T;rw[K];clear H F U n D l al N K;have ym:S≠A.ga:=h.box.ab h.v.aq.arr (by decide);have Qn:Hid (∀B C,((j.setCell (aD A.ga (q*2)) B).setCell (aD A.ga (q*2+1)) C).drew.cell? (aD S 1)=some (sL A.ga 0 A.ns.length (A.ns.length+A.nj.length))/\((j.setCell (aD A.ga (q*2)) B).setCell (aD A.ga (q*2+1)) C).drew.cell? (aD A.ga (p*2))=some (iV d.1)/\((j.setCell (aD A.ga (q*2)) B).setCell (aD A.ga (q*2+1)) C).drew.cell? (aD A.ga (p*2+1))=some (.slice a d.2.length c)):=fun B C=>by
     rw[jK _ _ _ _ _ (.inl ym),jK _ _ _ _ _ (.inr ⟨by omega,by omega⟩),jK _ _ _ _ _ (.inr ⟨by omega,by omega⟩)];exact⟨Lq,c0,c1⟩
    go_wp2
    go_region_held3 (fun W=>W.cell? (aD S 1)=some (sL A.ga 0 A.ns.length (A.ns.length+A.nj.length))/\W.cell? (aD A.ga (p*2))=some (iV d.1)/\W.cell? (aD A.ga (p*2+1))=some (.slice a d.2.length c)) (first | exact Qn.out _ _ | go_keep) ((fail))
    go_wp2
    go_ret
    exact T.out _ rfl)
theorem Ely.Sl.ea{Y:Ely α}{l:List α}(h:Y.Sl w (sL g o len cap) l)(k:Nat)(j:k<=l.length)(c:Nat):Y.Sl w (sL g (o+k*Y.n) (l.length-k) c) (l.drop k):=by
 rcases h with⟨e,_⟩ | ⟨g',f,a,xs,e,b,i,d⟩
 ·cases e
 ·cases e
  refine .inr ⟨g,f+k,c,xs,by rw[Nat.add_mul,List.length_drop],b,by rw[List.length_drop];omega,?_⟩;rw[List.length_drop,<-List.drop_drop];conv=>rhs;rw[<-d];rw[List.drop_take]
theorem Ely.Sl.takeN{Y:Ely α}{l:List α}(h:Y.Sl w (sL g o len cap) l)(k:Nat)(a:k<=l.length)(c:Nat):Y.Sl w (sL g o k c) (l.take k):=by
 rcases h with⟨e,_⟩ | ⟨g',i,b,xs,e,d,j,f⟩
 ·cases e
 ·cases e
  refine .inr ⟨g,i,c,xs,by rw[List.length_take,Nat.min_eq_left a],d,by rw[List.length_take];omega,?_⟩;rw[List.length_take,Nat.min_eq_left a];conv=>rhs;rw[<-f];rw[List.take_take,Nat.min_eq_left a]
theorem Ely.Own.nv{l:List E3}(h:yE.Own b w u l)(k:Int):∃x:NV,u=.slice x.2.1 x.2.2.1 x.2.2.2/\x.1=k/\NdR w x (k,l):=by
 obtain⟨a,c,rfl,d,e⟩:=h;exact⟨(k,adr a,l.length,l.length+c.length),rfl,rfl,rfl,d.sl,Nat.le_add_right _ _⟩
theorem cB{W:World}{x v0 v1:Value}{B:Nat}(a:B≠g)(h:W.cell? (aD B o)=some x):((W.setCell (aD g (q*2)) v0).setCell (aD g (q*2+1)) v1).drew.cell? (aD B o)=some x:=by
 rw[jK _ _ _ _ _ (.inl a)];exact h
structure SaS(A A':SA):Prop where
 ga:A'.ga=A.ga
 nj:A'.nj=A.nj
 gr:A'.gr=A.gr
 rj:A'.rj=A.rj
 cv:A'.cv=A.cv
 tv:A'.tv=A.tv
theorem SaS.refl(A:SA):SaS A A:=⟨rfl,rfl,rfl,rfl,rfl,rfl⟩
theorem SaS.trans{A B C:SA}(h:SaS A B)(k:SaS B C):SaS A C:=⟨k.ga.trans h.ga,k.nj.trans h.nj,k.gr.trans h.gr,k.rj.trans h.rj,k.cv.trans h.cv,k.tv.trans h.tv⟩
theorem SaS.setN(A:SA)(q:Nat)(x:NV):SaS A (A.setN q x):=⟨rfl,rfl,rfl,rfl,rfl,rfl⟩
structure Zt(w:World)(S:Nat)(A:SA)(g:fZ)(w':World):Prop where
 ex:∃A',Sp w' S A' g/\SaS A A'
 ae:Frm (fun k=>k=A.ga) w w'
theorem sV(w:World)(S:Nat)(A:SA)(h:Sp w S A f)(b q:Nat)(k:Int)(es:List E3)(hd:f.n b=some (k,es))(G:es.length=5)(e:b<f.c.length)(R:q<f.c.length)(qx:b≠q):
  Calls Tryz.prog 71 #[pT S 0,iV b,iV q] w fun r w'=>r=.returned (.tuple #[])/\Zt w S A (setN (setN f q (k,es.drop 3)) b (k,es.take 3)) w':=by
 have mq:=gW;obtain⟨_,s1,_⟩:=h.cells;obtain⟨a,c,E,d5,BQ,c0,c1,qy⟩:=h.v.aq.at hd;obtain⟨g,o,cp',he,hg,_⟩:=eG E (by simp only;omega);cases he;have Fz:(b:Int) <(A.ns.length:Int):=by omega
 have WP:(q:Int) <(A.ns.length:Int):=by rw[h.v.ln];omega
 simp only at c0 c1 qy E
 obtain⟨B,hB⟩:=eZ (w.heap.size);obtain⟨w0,ng⟩:=eZ (w.alloc (.cells #[iV k,sL g o 5 c] 96));rw[G]at qy;have ME:¬c=3:=by omega
 have Kc:(3:Int)<=(c:Int):=by omega
 have V:yE.Sl w (sL g (o+9) 2 (c-3)) (es.drop 3):=by have:=E.ea 3 (by omega) (c-3);rw[G]at this;exact this
 have WV:yE.Sl w (sL g o 3 c) (es.take 3):=E.takeN 3 (by omega) c;rw[G]at c1;have N:Bl w w0:=by rw[<-ng];exact(bQ w.heap.size w).alloc (nR _) _
 have m:=iNw ng hB;have ym:S≠A.ga:=h.box.ab h.v.aq.arr (by decide);have z:B≠A.ga:=by have:=h.v.aq.arr.lt;omega
 have t:=h.below N;obtain⟨_,M,_⟩:=t.cells;have b0:w0.cell? (aD B 0)=some (iV k):=m.c rfl;have b1:w0.cell? (aD B 1)=some (sL g o 5 c):=m.c rfl;have Ba:Hid (Calls Tryz.prog 90 #[sL g (o+9) 2 (c-3),.slice none 0 0] w0.drew fun r w'=>∃x:NV,r=.returned (.slice x.2.1 x.2.2.1 x.2.2.2)/\x.1=k/\NdR w' x (k,es.drop 3)/\Bl w0 w'):=by
  refine(mZ _ _ (es.drop 3) [] w0.drew (V.below N.drew) (.inl ⟨rfl,rfl⟩) (by simp;omega) (by simp)).mono ?_;rintro r w1 ⟨u,rfl,H,i⟩;rw[List.append_nil]at H;obtain⟨x,rfl,p,s⟩:=H.nv k;exact⟨x,rfl,p,s,(bQ w0.heap.size w0).drew.trans i⟩
 have XF:Hid (∀d:World,Frm (fun k=>k=A.ga) w d->Calls Tryz.prog 90 #[sL g o 3 c,.slice none 0 0] d.drew fun r w'=>∃x:NV,r=.returned (.slice x.2.1 x.2.2.1 x.2.2.2)/\x.1=k/\NdR w' x (k,es.take 3)/\Bl d w'):=fun d hF=>by
  refine(mZ _ _ (es.take 3) [] d.drew (WV.ae (hF.trans (Frm.drew _ _)) fun g cs hg=>hg.ab h.v.aq.arr (by decide)) (.inl ⟨rfl,rfl⟩) (by simp;omega) (by simp)).mono ?_;rintro r w1 ⟨u,rfl,H,i⟩;rw[List.append_nil]at H;obtain⟨x,rfl,p,s⟩:=H.nv k;exact⟨x,rfl,p,s,(bQ d.heap.size d).drew.trans i⟩
 have HS:=aA t;have Y:=aA m;obtain⟨f0,f1,Yt,qz,L,K,_⟩:=t.wr R;have HC:Hid (∀w1:World,Bl w0 w1->w1.cell? (aD S 1)=some (sL A.ga 0 A.ns.length (A.ns.length+A.nj.length))/\w1.cell? (aD B 0)=some (iV k)/\w1.cell? (aD B 1)=some (sL g o 5 c)):=fun w1 e=>by
  refine⟨(t.below e).cells.2.1,?_,?_⟩
  ·rw[(m.of (e.block _ m.lt)).cell];rfl
  ·rw[(m.of (e.block _ m.lt)).cell];rfl
 have HW:Hid (∀w1:World,Bl w0 w1->∃j l,w1.cell? (aD A.ga (q*2))=some j/\w1.cell? (aD A.ga (q*2+1))=some l/\w1.frozen? (aD A.ga (q*2))=false/\w1.frozen? (aD A.ga (q*2+1))=false):=fun w1 e=>by
  obtain⟨j,l,p,s,P,Q,_⟩:=(t.below e).wr R;exact⟨j,l,p,s,P,Q⟩
 have H5:=aA G;clear G V WV E m t;go_enter Tryz.func71,Tryz.ntmps71;go_wp2;go_region_held3 (fun W=>W.cell? (aD S 1)=some (sL A.ga 0 A.ns.length (A.ns.length+A.nj.length))/\W.cell? (aD B 0)=some (iV k)/\W.cell? (aD B 1)=some (sL g o 5 c)) (first | assumption | go_keep | exact⟨cB ym D,cB z F,cB z I⟩) ((go_at_call 90;refine Ba.out.mono ?_;rintro r w1 ⟨x,rfl,Ac,BW,i⟩;obtain⟨D,F,I⟩:=HC.out w1 i;obtain⟨j,l,T,U,L,K⟩:=HW.out w1 i));have C:Sp (set2 w1 A.ga q x) S (A.setN q x) (setN f q (k,es.drop 3)):=(HS.out.below i).set2 R BW;have de:(w1.setCell (aD A.ga (q*2)) (iV k)).setCell (aD A.ga (q*2+1)) (.slice x.2.1 x.2.2.1 x.2.2.2)=set2 w1 A.ga q x:=by unfold set2;rw[Ac]
 rw[de];have O:Frm (fun k=>k=A.ga) w (set2 w1 A.ga q x):=((Frm.aa N).trans (Frm.aa i)).trans (eL w1 A.ga q x);have n:IsC (set2 w1 A.ga q x) B #[iV k,sL g o 5 c] 96:=(Y.out.of (i.block _ Y.out.lt)).ae (eL w1 A.ga q x) z;generalize set2 w1 A.ga q x=d at *;obtain⟨_,M,_⟩:=C.cells;have b0:d.cell? (aD B 0)=some (iV k):=n.c rfl;have b1:d.cell? (aD B 1)=some (sL g o 5 c):=n.c rfl;have X:Hid ((A.setN q x).ns.length=A.ns.length):=by simp[SA.setN,Hid]
 have t1':d.cell? (aD S 1)=some (sL A.ga 0 A.ns.length (A.ns.length+A.nj.length)):=by rw[X.out]at M;exact M
 have Cv:Hid (∀w1:World,Bl d w1->w1.cell? (aD S 1)=some (sL A.ga 0 A.ns.length (A.ns.length+A.nj.length))/\w1.cell? (aD B 0)=some (iV k)/\w1.cell? (aD B 1)=some (sL g o 5 c)):=fun w1 e=>by
  refine⟨?_,?_,?_⟩
  ·have:=(C.below e).cells.2.1
   rw[X.out]at this;exact this
  ·rw[(n.of (e.block _ n.lt)).cell];rfl
  ·rw[(n.of (e.block _ n.lt)).cell];rfl
 have ER:Hid (∀w1:World,Bl d w1->∃j l,w1.cell? (aD A.ga (b*2))=some j/\w1.cell? (aD A.ga (b*2+1))=some l/\w1.frozen? (aD A.ga (b*2))=false/\w1.frozen? (aD A.ga (b*2+1))=false):=fun w1 xk=>by
  obtain⟨j,l,p,s,P,Q,_⟩:=(C.below xk).wr (q:=b) e;exact⟨j,l,p,s,P,Q⟩
 have pq:=aA C;have sq:=aA O;have Z:=XF.out d O;have XG:=aA Z;clear D F I T U L K C n Z M Yt qz de O;go_wp2;go_region_held3 (fun W=>W.cell? (aD S 1)=some (sL A.ga 0 A.ns.length (A.ns.length+A.nj.length))/\W.cell? (aD B 0)=some (iV k)/\W.cell? (aD B 1)=some (sL g o 5 c)) (first | assumption | go_keep | exact⟨cB ym D,cB z F,cB z I⟩) ((go_at_call 90;refine XG.out.mono ?_;rintro r v ⟨y,rfl,Dv,Ad,J⟩;obtain⟨D,F,I⟩:=Cv.out v J;obtain⟨j,l,T,U,L,K⟩:=ER.out v J));have ci:(v.setCell (aD A.ga (b*2)) (iV k)).setCell (aD A.ga (b*2+1)) (.slice y.2.1 y.2.2.1 y.2.2.2)=set2 v A.ga b y:=by unfold set2;rw[Dv]
 rw[ci];have HR:Hid (Zt w S A (setN (setN f q (k,es.drop 3)) b (k,es.take 3)) (set2 v A.ga b y)):=
  ⟨⟨_,(pq.out.below J).set2 (q:=b) e Ad,(SaS.setN A q x).trans (SaS.setN _ b y)⟩,(sq.out.trans (Frm.aa J)).trans (eL v A.ga b y)⟩
 clear ci D F I T U L K;go_wp2;exact⟨rfl,.tuple #[],by simp[results,Tryz.f71,go_sem],rfl,HR.out⟩
theorem aPR(W:World)(k v:ByteArray):(Instr.build 130 #[(0,.string k),(1,.string v)]).run Tryz.prog W=.ok (.agg #[.string k,.string v,iV 0]) W:=by kernel_rfl
structure ZpP(w:World)(S:Nat)(A:SA)(r:Option fZ)(e:Ending)(w':World):Prop where
 no:r=none->e=.returned (.bool false)/\Frm (fun k=>k=A.ga) w w'
 yes:∀g,r=some g->e=.returned (.bool true)/\Zt w S A g w'
theorem Sp.store{w1:World}{A:SA}(h:Sp w S A f)(a:Bl w w1)(b:q<f.c.length)(hx:NdR w1 x d):Zt w S A (Fo.setN f q d) (Go.Proofs.YtmpagpeenjddgaaGreat.set2 w1 A.ga q x):=
 ⟨⟨_,(h.below a).set2 b hx,SaS.setN A q x⟩,(Frm.aa a).trans (eL w1 A.ga q x)⟩
theorem dM{k:Int}(h:x.1=k):(w.setCell (aD g (q*2)) (iV k)).setCell (aD g (q*2+1)) (.slice x.2.1 x.2.2.1 x.2.2.2)=set2 w g q x:=by unfold set2;rw[h]
theorem Sp.ck{A:SA}(h:Sp w S A f)(v:Value)(es:List E3)(i:Nat)(e:E3)(o:yE.Sl w v es)(l:i<es.length)(m:es.length<=100)(k:Int)(j:b<f.c.length):
  Calls Tryz.prog 76 #[v,iV i,.agg #[.string e.1,.string e.2.1,iV e.2.2]] w.drew fun r w'=>∃x:NV,r=.returned (.slice x.2.1 x.2.2.1 x.2.2.2)/\x.1=k/\NdR w' x (k,es.set i e)/\Bl w w'/\w'.cell? (aD S 1)=some (sL A.ga 0 A.ns.length (A.ns.length+A.nj.length))/\
   ∃k0 k1,w'.cell? (aD A.ga (b*2))=some k0/\w'.cell? (aD A.ga (b*2+1))=some k1/\w'.frozen? (aD A.ga (b*2))=false/\w'.frozen? (aD A.ga (b*2+1))=false:=by
 refine(eY v es i e w.drew (o.below (bQ _ w).drew) l m).mono ?_;rintro r w1 ⟨u,rfl,n,c⟩;obtain⟨x,rfl,d,g⟩:=n.nv k;have a:Bl w w1:=(bQ _ w).drew.trans c;obtain⟨k0,k1,p,q,s,t,_⟩:=(h.below a).wr j;exact⟨x,rfl,d,g,a,(h.below a).cells.2.1,k0,k1,p,q,s,t⟩
theorem Sp.b7{A:SA}(h:Sp w S A f)(v:Value)(es:List E3)(i:Nat)(e:E3)(o:yE.Sl w v es)(l:i<=es.length)(m:es.length<=100)(k:Int)(j:b<f.c.length):
  Calls Tryz.prog 91 #[v,iV i,.agg #[.string e.1,.string e.2.1,iV e.2.2]] w.drew fun r w'=>∃x:NV,r=.returned (.slice x.2.1 x.2.2.1 x.2.2.2)/\x.1=k/\NdR w' x (k,insE es i e)/\Bl w w'/\w'.cell? (aD S 1)=some (sL A.ga 0 A.ns.length (A.ns.length+A.nj.length))/\
   ∃k0 k1,w'.cell? (aD A.ga (b*2))=some k0/\w'.cell? (aD A.ga (b*2+1))=some k1/\w'.frozen? (aD A.ga (b*2))=false/\w'.frozen? (aD A.ga (b*2+1))=false:=by
 refine(oH v es i e w.drew (o.below (bQ _ w).drew) l m).mono ?_;rintro r w1 ⟨u,rfl,n,c⟩;obtain⟨x,rfl,d,g⟩:=n.nv k;have a:Bl w w1:=(bQ _ w).drew.trans c;obtain⟨k0,k1,p,q,s,t,_⟩:=(h.below a).wr j;exact⟨x,rfl,d,g,a,(h.below a).cells.2.1,k0,k1,p,q,s,t⟩
theorem xD(w:World)(S:Nat)(A:SA)(h:Sp w S A f)(b:Nat)(es:List E3)(key val:ByteArray)(hd:f.n b=some (1,es))(J:Srt es)(X:∀i,i<es.length->(es.getD i e0).2.2=0)(h5:es.length<=10)(p:b<f.c.length):
  Calls Tryz.prog 72 #[pT S 0,iV b,.string key,.string val] w fun e w'=>e=.returned (.bool true)/\Zt w S A (setN f b (1,putE es key val)) w':=by
 have mq:=gW;have Gr:=aPR;obtain⟨_,s1,_⟩:=h.cells;obtain⟨a,c,l,d5,R,U,V,qy⟩:=h.v.aq.at hd;simp only at l U V;have G:0<es.length->_:=fun h=>eG l h;have Fz:(b:Int) <(A.ns.length:Int):=by omega
 have Q:S≠A.ga:=h.box.ab h.v.aq.arr (by decide);have m:=aA fun(i:Nat) (I:i<es.length)=>h.ck (.slice a es.length c) es i (key,val,0) l I (by omega) 1 p;have q:=aA fun(i:Nat) (I:i<=es.length)=>h.b7 (.slice a es.length c) es i (key,val,0) l I (by omega) 1 p;clear l R qy;go_enter Tryz.func72,Tryz.ntmps72;go_wp2;go_loopw [10,11] (fun u k wr=>∃j:Nat,j<=es.length/\k=iV j/\Is2 u (iV (rI es key j)) wr w/\Hid (∀x,x<j->ky es x≠key)) (fun _ k _=>es.length -(intOf k).toNat)
 case atStart=>exact⟨0,by omega,rfl,⟨rfl,rfl⟩,fun x hx=>by omega⟩
 case round=>
  obtain⟨j,hj,rfl,⟨rfl,rfl⟩,O⟩:=hrel;by_cases E:j<es.length
  ·obtain⟨g,o,c',d,hg,N⟩:=G (by omega)
   cases d
   obtain⟨x0,x1,x2⟩:=N wr j rfl E;have eX:(j:Int) <(es.length:Int):=by omega
   have v:Hid (ky es j=(es.getD j e0).1):=rfl;clear G N;generalize (es.getD j e0).1=x at *;by_cases d:x=key
   ·have B:=aA (aJX (val:=val) J X E (v.out.trans d))
    have Y:(x.toList == key.toList)=true:=by rw[d];exact beq_self_eq_true _
    clear d;have M:=m.out j E;have D:=aA M;clear M m q;go_wp2;go_region_held3 (fun W=>W.cell? (aD S 1)=some (sL A.ga 0 A.ns.length (A.ns.length+A.nj.length))) (first | assumption | go_keep | exact cB Q H) ((go_at_call 76;refine D.out.mono ?_;rintro r w1 ⟨y,rfl,s,t,F,H,k0,k1,Z,ie,jw,ix⟩));rw[dM s];have C:Hid (Zt wr S A (setN f b (1,putE es key val)) (set2 w1 A.ga b y)):=by rw[B.out];exact h.store F p t
    go_wp2
    go_ret
    exact⟨rfl,C.out⟩
   ·have Y:(x.toList == key.toList)=false:=by rw[beq_eq_false_iff_ne];exact fun e=>d (gV e)
    have K:Hid (∀z,z<j+1->ky es z≠key):=fun z hz=>by
     by_cases e:z=j
     ·rw[e,v.out];exact d
     ·exact O.out z (by omega)
    have n:Hid (rI es key (j+1)=if kl (ky es j) key=true then j+1 else rI es key j):=rfl;have L:Hid (kl (ky es j) key=Op.bytesLess x.toList key.toList):=by show kl (ky es j) key=_;rw[v.out];rfl
    clear d m q;cases P:Op.bytesLess x.toList key.toList with
    | true=>
     rw[L.out,if_pos P]at n;go_wp2;go_roundw
     case rel=>exact⟨j+1,by omega,by go_num,⟨by rw[n.out];go_num,rfl⟩,K.out⟩
     case measure=>simp[intOf];omega
    | false=>
     rw[L.out,if_neg (by rw[P];simp)]at n;go_wp2;go_roundw
     case rel=>exact⟨j+1,by omega,by go_num,⟨by rw[n.out],rfl⟩,K.out⟩
     case measure=>simp[intOf];omega
  ·obtain rfl:j=es.length:=by omega
   have B:=aA (aMM (val:=val) J O.out);have q7:rI es key es.length<=es.length:=by rw[yD J];exact kT _ _
   have D:=aA (q.out _ q7);generalize rI es key es.length=T at *;clear m q G;go_wp2;go_region_held3 (fun W=>W.cell? (aD S 1)=some (sL A.ga 0 A.ns.length (A.ns.length+A.nj.length))) (first | assumption | go_keep | exact cB Q H) ((go_at_call 91;refine D.out.mono ?_;rintro r w1 ⟨x,rfl,s,t,F,H,k0,k1,Z,ie,jw,ix⟩));rw[dM s];have C:Hid (Zt wr S A (setN f b (1,putE es key val)) (set2 w1 A.ga b x)):=by rw[B.out];exact h.store F p t
   go_wp2
   go_ret
   exact⟨rfl,C.out⟩
