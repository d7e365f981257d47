import Derived.Test.YtmpagpeenjddgaaGreatGw
set_option maxHeartbeats 9999999
set_option maxRecDepth 99999
set_option linter.all false
namespace Go.Proofs.YtmpagpeenjddgaaGreat
open Go.RowKit Fo
variable{gy:Int}{nj ns:List NV}{x:NV}{S b cap g ga len o q:Nat}{nodes:Nat->Option Nd}{d:Nd}{α:Type}{u:Value}{w w':World}{f:fZ}
structure NdR(w:World)(x:NV)(d:Nd):Prop where
 k:x.1=d.1
 e:yE.Sl w (.slice x.2.1 x.2.2.1 x.2.2.2) d.2
 c:x.2.2.1<=x.2.2.2
abbrev nv0:NV:=(0,none,0,0)
structure jG(w:World)(ga:Nat)(ns nj:List NV)(nodes:Nat->Option Nd):Prop where
 arr:IsC w ga (yN.row (ns++nj)) 96
 nd:∀b d,nodes b=some d->b<ns.length/\NdR w (ns.getD b nv0) d
 small:ns.length+nj.length<=maxLen
theorem NdR.ae{S:Nat->Prop}(h:NdR w x d)(k:Frm S w w')(a:∀g cs,IsC w g cs 130->¬S g):NdR w' x d:=⟨h.k,h.e.ae k a,h.c⟩
theorem jG.ae{S:Nat->Prop}(h:jG w ga ns nj nodes)(k:Frm S w w')(c:∀g cs,IsC w g cs 130->¬S g)(e:¬S ga):jG w' ga ns nj nodes:=
 ⟨h.arr.ae k e,fun b d a=>⟨(h.nd b d a).1,(h.nd b d a).2.ae k c⟩,h.small⟩
theorem jG.below(h:jG w ga ns nj nodes)(k:Bl w w'):jG w' ga ns nj nodes:=h.ae (Frm.aa (S:=fun _=>False) k) (fun _ _ _=>id) id
theorem jG.sub{nodes':Nat->Option Nd}(h:jG w ga ns nj nodes)(c:∀b d,nodes' b=some d->nodes b=some d):jG w ga ns nj nodes':=⟨h.arr,fun b d a=>h.nd b d (c b d a),h.small⟩
theorem jG.at(h:jG w ga ns nj nodes)(hd:nodes b=some d):∃a c,yE.Sl w (.slice a d.2.length c) d.2/\b<ns.length/\ns.getD b nv0=(d.1,a,d.2.length,c)/\w.cell? ⟨ga,b*2,none⟩=some (.int .i64 d.1)/\w.cell? ⟨ga,b*2+1,none⟩=some (.slice a d.2.length c)/\d.2.length<=c:=by
 obtain⟨g,k,f,n⟩:=h.nd b d hd;obtain⟨a,c,l⟩:=f.len;have e:ns.getD b nv0=(d.1,a,d.2.length,c):=by
  generalize ns.getD b nv0=x at *;obtain⟨q,r,s,t⟩:=x;simp only[Value.slice.injEq]at l;obtain⟨rfl,rfl,rfl⟩:=l;simp only at k;rw[k]
 rw[e]at f n;have m:∀j,j<2->w.cell? ⟨ga,b*2+j,none⟩=(aDK (d.1,a,d.2.length,c))[j]?:=fun j p=>by
  rw[h.arr.cell];have:=yN.at (ns++nj) (i:=b) (j:=j) (by simp;omega) p;have o:(ns++nj).getD b yN.z=(d.1,a,d.2.length,c):=by rw[dB,if_pos g];exact e
  rw[o]at this;exact this
 exact⟨a,c,f,g,e,m 0 (by omega),m 1 (by omega),n⟩
theorem IsC.ab{g':Nat}{cs cs':Array Value}{t t':TypeId}(h:IsC w g cs t)(a:IsC w g' cs' t')(ht:t≠t'):g≠g':=fun e=>by
 subst e;unfold IsC at h a;rw[h]at a;simp only[sJ,Obj.cells.injEq]at a;exact ht a.2.1
def K0(f:fZ)(b:Nat):List Nat:=bZ (f.n b)
theorem aMO(b:Nat)(d:Nd)(h:f.n b=some d):K0 f b=kids d:=by unfold K0;rw[h];rfl
structure WkP(f:fZ)(w:World)(gc:Nat)(cj:List Int)(P:List Nat)(c':List Int)(r:Ending)(w':World):Prop where
 r:r=.returned (.tuple #[])
 j:∃e',J f (rc f.r) c' e' P
 c:IsC w' gc (y64.row (c'++cj)) 2
 ae:Frm (fun k=>k=gc) w w'
structure WkI(f:fZ)(w:World)(gc:Nat)(cj:List Int)(P:List Nat)(c':List Int)(w':World):Prop where
 j:∃e',J f (rc f.r) c' e' P
 c:IsC w' gc (y64.row (c'++cj)) 2
 ae:Frm (fun k=>k=gc) w w'
theorem aCF{ht:Nat->Nat}(y:IC f)(hh:Hts f.n ht)(hK:∀x,cu f x<=1000000)(hE:∀b d,f.n b=some d->d.2.length<=10)(ga:Nat)(ns nj:List NV):
  ∀(m b:Nat) (d:Nd) (gc:Nat) (cj c:List Int) (e:Nat->Bool) (P:List Nat) (w:World),ht b=m->f.n b=some d->jG w ga ns nj f.n->IsC w gc (y64.row (c++cj)) 2->J f (rc f.r) c e (kids d++P)->
   Calls Tryz.prog 40 #[.slice (some ⟨ga,0,none⟩) ns.length (ns.length+nj.length),.int .i64 b,.slice (some ⟨gc,0,none⟩) c.length (c.length+cj.length)] w (WkP f w gc cj P (mN (K0 f) m b c)):=by
 intro m;induction m with
 | zero=>
  intro b d gc cj c e P w hm n z A E;obtain⟨a,cp,ee,hb,_,c0,c1,_⟩:=z.at n;have s:d.1=1/\kids d=[]:=by
   rcases hh b d n with⟨q,_⟩ | ⟨q,q'⟩
   ·exact⟨q,by simp[kids,q]⟩
   ·exfalso
    rcases y.kb b d n with O | ⟨_,O,_⟩
    ·omega
    ·cases hl:d.2 with
     | nil=>exact O hl
     | cons x l=>
      have:ch x∈kids d:=by simp[kids,q,hl]
      have:=q' _ this;omega
  have gh:(d.1 == 2)=false:=by rw[s.1];rfl
  rw[s.2]at E;have eX:(b:Int) <(ns.length:Int):=by omega
  have HX:Hid (WkP f w gc cj P (mN (K0 f) 0 b c) (.returned (.tuple #[])) w):=⟨rfl,⟨e,E⟩,A,Frm.refl _ _⟩;clear s E A;go_enter Tryz.func40,Tryz.ntmps40;go_wp2;refine bodyPost_ret (v:=.tuple #[]) (by simp[results,Tryz.f40,go_sem]) rfl ?_;exact HX.out
 | succ m ih=>
  intro b d gc cj c e P w hm n z A E;obtain⟨a,cp,ee,hb,_,c0,c1,_⟩:=z.at n;have s:d.1=2/\∀k∈kids d,ht k=m:=by
   rcases hh b d n with⟨_,q⟩ | ⟨q,q'⟩
   ·omega
   ·exact⟨q,fun k s=>by have:=q' k s;omega⟩
  have N:kids d=d.2.map ch:=by rw[kids,if_pos s.1]
  have gh:(d.1 == 2)=true:=by rw[s.1];rfl
  have eX:(b:Int) <(ns.length:Int):=by omega
  have Kb:ga≠gc:=z.arr.ab A (by decide);have Im:Hid (c.length=f.c.length):=E.len;have y7:=hE b d n;have Au:d.2≠[]:=by
   rcases y.kb b d n with O | ⟨_,O,_⟩
   ·omega
   ·exact O
  obtain⟨g,o,cp',he,hg,U⟩:=eG ee (List.length_pos_iff.2 Au);cases he;have ce:g≠gc:=by
   rcases ee with⟨q,_⟩ | ⟨g',o',cap',xs,q,q1,_⟩
   ·cases q
   ·cases q;exact q1.ab A (by decide)
  have HW:Hid (mN (K0 f) (m+1) b c=(kids d).foldl (vis (K0 f) m) c):=by show _=_;rw[uG,aMO b d n]
  generalize mN (K0 f) (m+1) b c=cW at *;go_enter Tryz.func40,Tryz.ntmps40;go_wp2;go_loopw [6,7] (fun i _ wr=>∃j:Nat,j<=d.2.length/\i=.int .i64 j/\WkI f w gc cj ((kids d).drop j++P) (((kids d).take j).foldl (vis (K0 f) m) c) wr) (fun i _ _=>d.2.length -(intOf i).toNat)
  case atStart=>exact⟨0,by omega,rfl,⟨e,by simpa using E⟩,by simpa using A,Frm.refl _ _⟩
  case round=>
   obtain⟨j,hj,rfl,⟨⟨e1,t⟩,K,M⟩⟩:=hrel;have c0':wr.cell? ⟨ga,b*2,none⟩=some (.int .i64 d.1):=by rw[<-c0];simp[World.cell?,M.block ga z.arr.lt Kb]
   have c1':wr.cell? ⟨ga,b*2+1,none⟩=some (.slice (some ⟨g,o,none⟩) d.2.length cp):=by rw[<-c1];simp[World.cell?,M.block ga z.arr.lt Kb]
   by_cases H:j<d.2.length
   ·obtain⟨x0,x1,x2⟩:=U wr j (M.block g hg ce) H
    have d9:(j:Int) <(d.2.length:Int):=by omega
    have cq:0<=(d.2.getD j e0).2.2:=by
     have ft:f.n b=some (2,d.2):=by rw[n,<-s.1]
     exact y.ar ft H
    obtain⟨k,Q⟩:=eZ (kd d.2 j);have nu:(d.2.getD j e0).2.2=(k:Int):=by rw[<-Q];unfold kd ch;omega
    rw[nu]at x2;have E0:k∈kids d:=by
     have ft:d=(2,d.2):=by rw[<-s.1]
     rw[ft,<-Q];exact aQ H
    obtain⟨dk,X⟩:=y.af n E0;have uw:k<f.c.length:=y.lt X;have T:(kids d).drop j=k ::(kids d).drop (j+1):=by
     rw[N,List.drop_eq_getElem_cons (by simpa using H)];congr 1;rw[<-Q];unfold kd;rw[List.getElem_map,gD,gE H];rfl
    rw[T,List.cons_append]at t;have Y:(kids d).take (j+1)=(kids d).take j++[k]:=by
     rw[List.take_add_one];congr 1;have:(kids d)[j]?=some k:=by
      have:=congrArg List.head? T
      rw[List.head?_drop]at this;simpa using this
     rw[this];rfl
    have u:Hid (((kids d).take (j+1)).foldl (vis (K0 f) m) c=vis (K0 f) m (((kids d).take j).foldl (vis (K0 f) m) c) k):=by
     show _=_
     rw[Y,List.foldl_append];rfl
    have lm:=t.len;rw[<-Im.out]at lm;have W:=t.le y k;have Ww:=hK k;rw[<-Im.out]at uw;generalize ((kids d).take j).foldl (vis (K0 f) m) c=h at *;have V:k<h.length:=by omega
    obtain⟨x,F⟩:=eZ (h.getD k 0);have y0:=jN K V;have z0:=K.frozen k;have G:=pE K V (x+1);have Lq:(k:Int) <(c.length:Int):=by omega
    rw[F]at W y0;have OX:IntKind.i64.wrap (x+1)=x+1:=IntWalk.i64_in _ ⟨by omega,by omega⟩;have C:Hid (iG h k=h.set k (x+1)):=by show _=_;unfold iG;rw[F]
    obtain⟨R,dh⟩:=eZ (wr.setCell ⟨gc,k,none⟩ (.int .i64 (x+1)));rw[dh]at G;have d8:Frm (fun k=>k=gc) w R:=M.trans (by rw[<-dh];exact Frm.set (S:=fun k=>k=gc) wr (p:=⟨gc,k,none⟩) rfl _);have Kl:k <(h.set k (x+1)).length:=by simpa using V
    have y2:=jN G Kl;have I:(h.set k (x+1)).getD k 0=x+1:=by rw[eQ,if_pos ⟨rfl,V⟩]
    rw[I]at y2;have ts:jG R ga ns nj f.n:=z.ae d8 (fun g cs hg=>hg.ab A (by decide)) Kb;have ai:(h.set k (x+1)).length=c.length:=by rw[List.length_set];omega
    by_cases D:x=0
    ·have B:=t.first y X (F.trans D)
     have L:vis (K0 f) m h k=mN (K0 f) m k (iG h k):=by
      unfold vis;rw[if_pos (by rw[C.out,I,D];rfl)]
     rw[L]at u;rw[C.out]at u B;have ze:=ih k dk gc cj _ _ _ R (s.2 k E0) X ts G B;rw[ai]at ze;have zu:((x+1:Int) == 1)=true:=by rw[D];rfl
     have P7:Hid (Calls Tryz.prog 40 #[.slice (some ⟨ga,0,none⟩) ns.length (ns.length+nj.length),.int .i64 k,.slice (some ⟨gc,0,none⟩) c.length (c.length+cj.length)] R fun r w'=>r=.returned (.tuple #[])/\WkI f w gc cj ((kids d).drop (j+1)++P) (((kids d).take (j+1)).foldl (vis (K0 f) m) c) w'):=by
      refine ze.mono ?_;rintro r w3 ⟨rfl,k1,k2,k3⟩;rw[u.out];exact⟨rfl,k1,k2,d8.trans k3⟩
     clear U t B G I W D C ts L ze u ai F Q nu T Y N lm;go_wp2_with fail;refine P7.out.mono ?_;rintro r w3 ⟨rfl,mz⟩;go_wp2;go_roundw
     case rel=>exact⟨j+1,by omega,by go_num,mz⟩
     case measure=>simp[intOf];omega
    ·have B:=t.more (by rw[<-Im.out];exact uw) (by rw[F];exact D)
     have L:vis (K0 f) m h k=iG h k:=by
      unfold vis;rw[if_neg (by rw[C.out,I];omega)]
     rw[L]at u;rw[C.out]at u B;have zu:((x+1:Int) == 1)=false:=by rw[beq_eq_false_iff_ne];omega
     have Z:Hid (WkI f w gc cj ((kids d).drop (j+1)++P) (((kids d).take (j+1)).foldl (vis (K0 f) m) c) R):=by
      show WkI _ _ _ _ _ _ _
      rw[u.out];exact⟨⟨_,B⟩,G,d8⟩
     clear U t B G I W D C ts L u ai F Q nu T Y N lm;go_wp2;go_roundw
     case rel=>exact⟨j+1,by omega,by go_num,Z.out⟩
     case measure=>simp[intOf];omega
   ·obtain rfl:j=d.2.length:=by omega
    have e1':(kids d).length=d.2.length:=by rw[N];simp
    rw[List.drop_of_length_le (by omega),List.nil_append]at t;rw[List.take_of_length_le (by omega),<-HW.out]at t K;have Z:Hid (WkP f w gc cj P cW (.returned (.tuple #[])) wr):=⟨rfl,⟨e1,t⟩,K,M⟩;clear U t N;go_wp2;refine bodyPost_ret (v:=.tuple #[]) (by simp[results,Tryz.f40,go_sem]) rfl ?_;exact Z.out
structure SA where
 ga:Nat
 ns:List NV
 nj:List NV
 gr:Nat
 rj:List (Int×Int)
 cv:Value
 tv:Value
def aL(A:SA)(f:fZ):Array Value:=#[.int .i64 f.c.length,.slice (some ⟨A.ga,0,none⟩) A.ns.length (A.ns.length+A.nj.length),.slice (some ⟨A.gr,0,none⟩) f.r.length (f.r.length+A.rj.length),.int .i64 f.next,.int .i64 f.gen,A.cv,A.tv]
structure SpV(w:World)(A:SA)(f:fZ):Prop where
 aq:jG w A.ga A.ns A.nj f.n
 ln:A.ns.length=f.c.length
 bo:IsC w A.gr (yT.row (f.r++A.rj)) 92
 rs:f.r.length+A.rj.length<=maxLen
 m:y64.Sl w A.cv f.m
structure Sp(w:World)(S:Nat)(A:SA)(f:fZ):Prop where
 box:IsC w S (aL A f) 58
 v:SpV w A f
theorem SpV.ae{Z:Nat->Prop}{A:SA}(h:SpV w A f)(k:Frm Z w w')(a:∀g cs t,(t=130\/t=96\/t=92\/t=2)->IsC w g cs t->¬Z g):SpV w' A f:=
 ⟨h.aq.ae k (fun g cs b=>a g cs _ (.inl rfl) b) (a _ _ _ (.inr (.inl rfl)) h.aq.arr),h.ln,h.bo.ae k (a _ _ _ (.inr (.inr (.inl rfl))) h.bo),h.rs,h.m.ae k fun g cs b=>a g cs _ (.inr (.inr (.inr rfl))) b⟩
theorem SpV.below{A:SA}(h:SpV w A f)(k:Bl w w'):SpV w' A f:=h.ae (Frm.aa (S:=fun _=>False) k) fun _ _ _ _ _=>id
theorem Sp.below{A:SA}(h:Sp w S A f)(k:Bl w w'):Sp w' S A f:=⟨h.box.of (k.block _ h.box.lt),h.v.below k⟩
theorem Sp.cells{A:SA}(h:Sp w S A f):w.cell? ⟨S,0,none⟩=some (.int .i64 f.c.length)/\w.cell? ⟨S,1,none⟩=some (.slice (some ⟨A.ga,0,none⟩) A.ns.length (A.ns.length+A.nj.length))/\w.cell? ⟨S,2,none⟩=some (.slice (some ⟨A.gr,0,none⟩) f.r.length (f.r.length+A.rj.length))/\w.cell? ⟨S,3,none⟩=some (.int .i64 f.next)/\w.cell? ⟨S,4,none⟩=some (.int .i64 f.gen)/\w.cell? ⟨S,5,none⟩=some A.cv/\w.cell? ⟨S,6,none⟩=some A.tv:=by
 refine⟨?_,?_,?_,?_,?_,?_,?_⟩<;>rw[h.box.cell]<;>rfl
theorem SpV.root{A:SA}(h:SpV w A f){t:Nat}(ht:t<f.r.length):w.cell? ⟨A.gr,t*2,none⟩=some (.int .i64 (f.r.getD t (0,0)).1)/\w.cell? ⟨A.gr,t*2+1,none⟩=some (.int .i64 (f.r.getD t (0,0)).2):=by
 have a:∀j,j<2->w.cell? ⟨A.gr,t*2+j,none⟩=(aU (f.r.getD t (0,0)))[j]?:=fun j c=>by
  rw[h.bo.cell];have:=yT.at (f.r++A.rj) (i:=t) (j:=j) (by simp;omega) c;have b:(f.r++A.rj).getD t yT.z=f.r.getD t (0,0):=by rw[dB,if_pos ht];rfl
  rw[b]at this;exact this
 exact⟨a 0 (by omega),a 1 (by omega)⟩
structure CuI(f:fZ)(w:World)(B gc:Nat)(cj:List Int)(P:List Nat)(c':List Int)(w':World):Prop where
 j:∃e',J f (rc f.r) c' e' P
 c:IsC w' gc (y64.row (c'++cj)) 2
 ae:Below B w w'
theorem fW(l:IC f)(hK:∀x,cu f x<=1000000)(hE:∀b d,f.n b=some d->d.2.length<=10)(w:World)(S:Nat)(A:SA)(h:Sp w S A f)(jy:f.r.length<=100):
  Calls Tryz.prog 24 #[.pointer (some ⟨S,0,none⟩)] w fun r w'=>∃u,r=.returned u/\y64.Own w.heap.size w' u f.c/\Bl w w':=by
 obtain⟨ht,hh⟩:=l.ht;obtain⟨s0,s1,s2,_⟩:=h.cells;have h8:=l.n8;have h5:=l.al;have HC:=aA (aLH l hh (K:=K0 f) fun b d hd=>aMO b d hd);have rq:=J.start f;unfold aOH at HC;go_enter Tryz.func24,Tryz.ntmps24;go_wp2_with fail;refine(qC f.c.length h5 w).mono ?_;rintro r w1 ⟨u,rfl,⟨ag,n,rfl,L,lq⟩,au⟩;obtain⟨a,rfl⟩:∃g,ag=some g:=by
  cases ag with
  | none=>have:=(L.nil rfl).1;have:=congrArg List.length this;rw[List.length_replicate,List.length_nil]at this;omega
  | some g=>exact⟨g,rfl⟩
 have yx:IsC w1 a (y64.row (List.replicate f.c.length 0++n)) 2:=L.arr a rfl;have W:=lq a rfl;have mo:=L.small;simp only[adr,Option.map_some,List.length_replicate]at mo |-;have Q1:=h.box.lt;have HZ:Hid (List.replicate f.c.length (0:Int)=List.replicate f.c.length 0):=rfl;generalize List.replicate f.c.length (0:Int)=zs at *;have hN:=h.v.aq;have HN:=aA hN;have D:=aA fun(w':World) (X:Bl w w')=>(h.below X).v;have HB:=aA fun(w':World) (X:Bl w w')=>(h.below X).cells;clear L lq h8;go_wp2;go_loopw [4,5] (fun i _ wr=>∃j:Nat,j<=f.r.length/\i=.int .i64 j/\CuI f w w.heap.size a n (((f.r.map fun r=>r.2.toNat)).drop j) (((f.r.map fun r=>r.2.toNat).take j).foldl (fun c r=>vis (K0 f) (ht r) c r) zs) wr) (fun i _ _=>f.r.length -(intOf i).toNat)
 case atStart=>exact⟨0,by omega,rfl,⟨_,by simpa using rq⟩,by simpa using yx,au⟩
 case round=>
  obtain⟨j,hj,rfl,⟨⟨e1,q⟩,v,H⟩⟩:=hrel;obtain⟨t0,t1,t2,_⟩:=HB.out wr H;have Q:=(D.out wr H).aq;by_cases I:j<f.r.length
  ·obtain⟨r0,r1⟩:=(D.out wr H).root I
   have d9:(j:Int) <(f.r.length:Int):=by omega
   obtain⟨k,O⟩:=eZ (aB f j);have E7:=aP I;have N:(f.r.getD j (0,0)).2=(k:Int):=by rw[<-O];unfold aB;have:=(l.rb _ E7).1;omega
   rw[N]at r1;obtain⟨dk,C⟩:=l.ao E7;rw[N]at C;simp only[Int.toNat_natCast]at C;have uw:=l.lt C;have P:(f.r.map fun r=>r.2.toNat)[j]?=some k:=by
    rw[List.getElem?_map,gE I];rw[<-O];unfold aB;rw[gD,gE I];rfl
   have U:(f.r.map fun r=>r.2.toNat).drop j=k ::(f.r.map fun r=>r.2.toNat).drop (j+1):=by
    obtain⟨o,hy⟩:=List.getElem?_eq_some_iff.1 P;rw[List.drop_eq_getElem_cons o,hy]
   have T:(f.r.map fun r=>r.2.toNat).take (j+1)=(f.r.map fun r=>r.2.toNat).take j++[k]:=by
    rw[List.take_add_one,P];rfl
   rw[U]at q;have m:Hid (((f.r.map fun r=>r.2.toNat).take (j+1)).foldl (fun c r=>vis (K0 f) (ht r) c r) zs=vis (K0 f) (ht k) (((f.r.map fun r=>r.2.toNat).take j).foldl (fun c r=>vis (K0 f) (ht r) c r) zs) k):=by
    show _=_
    rw[T,List.foldl_append];rfl
   have lm:=q.len;have R:=q.le l k;have Ww:=hK k;generalize ((f.r.map fun r=>r.2.toNat).take j).foldl (fun c r=>vis (K0 f) (ht r) c r) zs=c1 at *;have M:k<c1.length:=by omega
   obtain⟨x,o⟩:=eZ (c1.getD k 0);have y0:=jN v M;have z0:=v.frozen k;have B:=pE v M (x+1);have Lq:(k:Int) <(f.c.length:Int):=by omega
   rw[o]at R y0;have OX:IntKind.i64.wrap (x+1)=x+1:=IntWalk.i64_in _ ⟨by omega,by omega⟩;have t:Hid (iG c1 k=c1.set k (x+1)):=by show _=_;unfold iG;rw[o]
   obtain⟨z,dh⟩:=eZ (wr.setCell ⟨a,k,none⟩ (.int .i64 (x+1)));rw[dh]at B;have E:Bl w z:=H.trans (by rw[<-dh];exact(bQ _ wr).setCell (p:=⟨a,k,none⟩) W _);have Kl:k <(c1.set k (x+1)).length:=by simpa using M
   have y2:=jN B Kl;have F:(c1.set k (x+1)).getD k 0=x+1:=by rw[eQ,if_pos ⟨rfl,M⟩]
   rw[F]at y2;have Y:=(D.out z E).aq;obtain⟨v0,v1,v2,_⟩:=HB.out z E;have V:(c1.set k (x+1)).length=f.c.length:=by rw[List.length_set];omega
   by_cases y:x=0
   ·have s:=q.first l C (o.trans y)
    have G:vis (K0 f) (ht k) c1 k=mN (K0 f) (ht k) k (iG c1 k):=by
     unfold vis;rw[if_pos (by rw[t.out,F,y];rfl)]
    rw[G]at m;rw[t.out]at m s;have Z:=aCF l hh hK hE A.ga A.ns A.nj (ht k) k dk a n _ _ _ z rfl C Y B s;rw[V]at Z;have zu:((x+1:Int) == 1)=true:=by rw[y];rfl
    have P7:Hid (Calls Tryz.prog 40 #[.slice (some ⟨A.ga,0,none⟩) A.ns.length (A.ns.length+A.nj.length),.int .i64 k,.slice (some ⟨a,0,none⟩) f.c.length (f.c.length+n.length)] z fun r w'=>r=.returned (.tuple #[])/\CuI f w w.heap.size a n (((f.r.map fun r=>r.2.toNat)).drop (j+1)) (((f.r.map fun r=>r.2.toNat).take (j+1)).foldl (fun c r=>vis (K0 f) (ht r) c r) zs) w'):=by
     refine Z.mono ?_;rintro r w3 ⟨rfl,k1,k2,k3⟩;rw[m.out];exact⟨rfl,k1,k2,E.trans (k3.below E.size fun k e=>by rw[e];exact W)⟩
    clear q s B F R y t Y G Z m V o O N U T lm P Q;go_wp2_with fail;refine P7.out.mono ?_;rintro r w3 ⟨rfl,mz⟩;go_wp2;go_roundw
    case rel=>exact⟨j+1,by omega,by go_num,mz⟩
    case measure=>simp[intOf];omega
   ·have s:=q.more (uw) (by rw[o];exact y)
    have G:vis (K0 f) (ht k) c1 k=iG c1 k:=by
     unfold vis;rw[if_neg (by rw[t.out,F];omega)]
    rw[G]at m;rw[t.out]at m s;have zu:((x+1:Int) == 1)=false:=by rw[beq_eq_false_iff_ne];omega
    have D:Hid (CuI f w w.heap.size a n (((f.r.map fun r=>r.2.toNat)).drop (j+1)) (((f.r.map fun r=>r.2.toNat).take (j+1)).foldl (fun c r=>vis (K0 f) (ht r) c r) zs) z):=by
     show CuI _ _ _ _ _ _ _ _
     rw[m.out];exact⟨⟨_,s⟩,B,E⟩
    clear q s B F R y t Y G m V o O N U T lm P Q;go_wp2;go_roundw
    case rel=>exact⟨j+1,by omega,by go_num,D.out⟩
    case measure=>simp[intOf];omega
  ·obtain rfl:j=f.r.length:=by omega
   rw[List.take_of_length_le (by simp),HC.out]at v;have HX:Hid (y64.Own w.heap.size wr (.slice (some ⟨a,0,none⟩) f.c.length (f.c.length+n.length)) f.c):=⟨some a,n,rfl,⟨fun g e=>(by cases e;exact v),fun e=>(by cases e),mo⟩,fun g e=>(by cases e;exact W)⟩;clear v q Q;go_wp2;go_ret;exact⟨_,rfl,HX.out,H⟩
theorem nH{l:List Int}(h:y64.Sl w u l)(d:0<l.length):∃g o c,u=.slice (some ⟨g,o,none⟩) l.length c/\g<w.heap.size/\(∃cs,IsC w g cs 2)/\∀(w':World) (i:Nat),(w'.heap[g]?=w.heap[g]?)->i<l.length->w'.cell? ⟨g,o+i,none⟩=some (.int .i64 (l.getD i 0)):=by
 rcases h with⟨rfl,rfl⟩ | ⟨g,o,a,xs,rfl,b,f,j⟩
 ·simp at d
 ·obtain⟨g',t,s,e,p,m⟩:=(show y64.Sl w (.slice (some ⟨g,o*y64.n,none⟩) l.length a) l from .inr ⟨g,o,a,xs,rfl,b,f,j⟩).at d
  cases e
  refine⟨g,_,_,rfl,p,⟨_,b⟩,fun w' i n q=>?_⟩;have r:∀k,w'.cell? ⟨g,k,none⟩=w.cell? ⟨g,k,none⟩:=fun k=>by simp[World.cell?,n]
  have:=m i 0 q (by decide)
  have e:o*y64.n+i*y64.n+0=o*y64.n+i:=by show o*1+i*1+0=o*1+i;omega
  rw[e]at this;rw[r];exact this
theorem aCY(h:∀x,x<b->frB f gy x=false)(a:frB f gy b=true)(c:b<f.c.length):mM f gy=(b:Int):=by
 unfold mM;have:(List.range f.c.length).find? (frB f gy)=some b:=by
  rw[List.find?_range_eq_some];exact⟨a,by simpa using c,fun x d=>by rw[h x d];rfl⟩
 rw[this]
theorem aCX(h:∀x,x<f.c.length->frB f gy x=false):mM f gy=-1:=by
 unfold mM;have:(List.range f.c.length).find? (frB f gy)=none:=by
  rw[List.find?_eq_none];intro x a;rw[h x (List.mem_range.1 a)];simp
 rw[this]
theorem mZ(g:IC f)(H:∀x,cu f x<=1000000)(G:∀b d,f.n b=some d->d.2.length<=10)(w:World)(S:Nat)(A:SA)(h:Sp w S A f)(I:f.r.length<=100)(c:Int):
  Calls Tryz.prog 70 #[.pointer (some ⟨S,0,none⟩),.int .i64 c] w fun r w'=>r=.returned (.int .i64 (mM f c))/\Bl w w':=by
 have U:=g.n8;have T:=g.al;go_enter Tryz.func70,Tryz.ntmps70;go_wp2_with fail;refine(fW g H G w S A h I).mono ?_;rintro r w1 ⟨u,rfl,E,p⟩;obtain⟨Q,Y,N,rfl,O,_,n⟩:=nH E.sl (by omega);have D:=h.below p;obtain⟨s0,_,_,_,_,J,_⟩:=D.cells;obtain⟨R,Z,P,F,L,_,v⟩:=nH D.v.m (by rw[g.len];omega);rw[F]at J;have B:Hid (f.m.length=f.c.length):=g.len;clear F E;go_wp2;go_loopw [6] (fun i wr=>∃k:Nat,2<=k/\k<=f.c.length/\i=.int .i64 k/\Is2 (.bool false) (.bool false) wr w1/\Hid (∀x,x<k->frB f c x=false)) (fun i _=>f.c.length -(intOf i).toNat)
 case atStart=>exact⟨2,by omega,by omega,rfl,⟨rfl,rfl⟩,fun x V=>by unfold frB;rw[decide_eq_false (by omega)];simp⟩
 case round=>
  obtain⟨k,K,uw,rfl,⟨_,rfl⟩,s⟩:=hrel;by_cases o:k<f.c.length
  ·have x0:=n wr k rfl o
   have x1:=v wr k rfl (by rw[B.out];exact o);have X:(k:Int) <(f.c.length:Int):=by omega
   have M:(k:Int) <(f.m.length:Int):=by rw[B.out];omega
   have a:Hid (frB f c k=(decide (2<=k) && (f.c.getD k 0 == 0) && (f.m.getD k 0 == 0) && !((k:Int) == c))):=rfl;rw[decide_eq_true K]at a;generalize f.c.getD k 0=x at *;generalize f.m.getD k 0=y at *;have l:Hid (frB f c k=false->∀x,x<k+1->frB f c x=false):=fun q z W=>by
    by_cases e:z=k
    ·rw[e];exact q
    ·exact s.out z (by omega)
   clear n v;cases j:(x == 0)with
   | false=>
    rw[j]at a;go_wp2;go_roundw
    case rel=>exact⟨k+1,by omega,by omega,by go_num,⟨rfl,rfl⟩,l.out (by rw[a.out];rfl)⟩
    case measure=>simp[intOf];omega
   | true=>
    cases t:(y == 0)with
    | false=>
     rw[j,t]at a;go_wp2;go_roundw
     case rel=>exact⟨k+1,by omega,by omega,by go_num,⟨rfl,rfl⟩,l.out (by rw[a.out];rfl)⟩
     case measure=>simp[intOf];omega
    | true=>
     cases C:((k:Int) == c)with
     | true=>
      rw[j,t,C]at a;go_wp2;go_roundw
      case rel=>exact⟨k+1,by omega,by omega,by go_num,⟨rfl,rfl⟩,l.out (by rw[a.out];rfl)⟩
      case measure=>simp[intOf];omega
     | false=>
      rw[j,t,C]at a;have m:=aA (aCY s.out (by rw[a.out];rfl) o);go_wp2;go_ret;exact⟨by rw[m.out];rfl,p⟩
  ·obtain rfl:k=f.c.length:=by omega
   have m:=aA (aCX s.out);clear n v;go_wp2;go_ret;exact⟨by rw[m.out];rfl,p⟩
def set2(w:World)(g q:Nat)(x:NV):World:=(w.setCell ⟨g,q*2,none⟩ (.int .i64 x.1)).setCell ⟨g,q*2+1,none⟩ (.slice x.2.1 x.2.2.1 x.2.2.2)
theorem eK(w:World)(g q:Nat)(x:NV):Frm (fun k=>k=g) w (set2 w g q x):=(Frm.set (S:=fun k=>k=g) w (p:=⟨g,q*2,none⟩) rfl _).trans (Frm.set (S:=fun k=>k=g) _ (p:=⟨g,q*2+1,none⟩) rfl _)
theorem aOA(l:List NV)(q:Nat)(x:NV)(h:q<l.length):((yN.row l).setIfInBounds (q*2) (.int .i64 x.1)).setIfInBounds (q*2+1) (.slice x.2.1 x.2.2.1 x.2.2.2)=yN.row (l.set q x):=by
 unfold Ely.row;rw[List.setIfInBounds_toArray,List.setIfInBounds_toArray];congr 1;induction l generalizing q with
 | nil=>simp at h
 | cons a l ih=>
  cases q with
  | zero=>rfl
  | succ q=>
   simp only[List.flatMap_cons,List.set_cons_succ];have e:yN.cell a=[.int .i64 a.1,.slice a.2.1 a.2.2.1 a.2.2.2]:=rfl;rw[e];have b:(q+1)*2=q*2+1+1:=by omega
   rw[b];show [_,_]++((l.flatMap yN.cell).set (q*2) _).set (q*2+1) _=_
   rw[ih q (by simpa using h)]
theorem jG.set2(h:jG w ga ns nj nodes)(c:q<ns.length)(hx:NdR w x d):jG (Go.Proofs.YtmpagpeenjddgaaGreat.set2 w ga q x) ga (ns.set q x) nj (upd nodes q (some d)):=by
 have hF:=eK w ga q x;have f:∀g cs,IsC w g cs 130->¬g=ga:=fun g cs i=>i.ab h.arr (by decide);refine⟨?_,fun b d' a=>?_,by simpa using h.small⟩
 ·have:=(h.arr.set (q*2) (.int .i64 x.1)).set (q*2+1) (.slice x.2.1 x.2.2.1 x.2.2.2)
  rw[aOA _ _ _ (by simp;omega),List.set_append_left _ _ c]at this;exact this
 ·rw[List.length_set,bB _ _ _ _ _ c]
  by_cases e:b=q
  ·rw[e,aD]at a
   cases a
   rw[if_pos e];exact⟨by rw[e];exact c,hx.ae hF f⟩
  ·rw[aC _ _ e]at a
   rw[if_neg e];exact⟨(h.nd b d' a).1,(h.nd b d' a).2.ae hF f⟩
def SA.setN(A:SA)(q:Nat)(x:NV):SA:={A with ns:=A.ns.set q x}
theorem Sp.set2{A:SA}(h:Sp w S A f)(b:q<f.c.length)(hx:NdR w x d):Sp (Go.Proofs.YtmpagpeenjddgaaGreat.set2 w A.ga q x) S (A.setN q x) (setN f q d):=by
 have hF:=eK w A.ga q x;have a:=h.v.aq.arr;refine⟨?_,h.v.aq.set2 (by rw[h.v.ln];exact b) hx,by simp[SA.setN,h.v.ln,Fo.setN],h.v.bo.ae hF (h.v.bo.ab a (by decide)),h.v.rs,h.v.m.ae hF fun g cs k=>k.ab a (by decide)⟩;have:=h.box.ae hF (h.box.ab a (by decide));have e:aL (A.setN q x) (Fo.setN f q d)=aL A f:=by simp[aL,SA.setN,Fo.setN]
 rw[e];exact this
theorem Sp.sub{A:SA}{g:fZ}(h:Sp w S A f)(hn:∀b d,g.n b=some d->f.n b=some d)(a:g.c.length=f.c.length)(hr:g.r=f.r)(h1:g.next=f.next)(h2:g.gen=f.gen)(h3:g.m=f.m):Sp w S A g:=by
 refine⟨?_,h.v.aq.sub hn,by rw[a];exact h.v.ln,by rw[hr];exact h.v.bo,by rw[hr];exact h.v.rs,by rw[h3];exact h.v.m⟩;have e:aL A g=aL A f:=by unfold aL;rw[a,hr,h1,h2]
 rw[e];exact h.box
theorem jO(w:World)(g q:Nat)(a c:Value)(h:b≠g\/(o≠q*2/\o≠q*2+1)):((w.setCell ⟨g,q*2,none⟩ a).setCell ⟨g,q*2+1,none⟩ c).drew.cell? ⟨b,o,none⟩=w.cell? ⟨b,o,none⟩:=by
 show((w.setCell ⟨g,q*2,none⟩ a).setCell ⟨g,q*2+1,none⟩ c).cell? ⟨b,o,none⟩=_
 rw[World.cell?_setCell_other,World.cell?_setCell_other]
 ·intro e;simp only[Addr.mk.injEq]at e;omega
 ·intro e;simp only[Addr.mk.injEq]at e;omega
theorem Sp.drew{A:SA}(h:Sp w S A f):Sp w.drew S A f:=h.below (bQ _ w).drew
theorem Sp.wr{A:SA}(h:Sp w S A f)(c:q<f.c.length):∃k0 k1,w.cell? ⟨A.ga,q*2,none⟩=some k0/\w.cell? ⟨A.ga,q*2+1,none⟩=some k1/\w.frozen? ⟨A.ga,q*2,none⟩=false/\w.frozen? ⟨A.ga,q*2+1,none⟩=false/\(q:Int) <(A.ns.length:Int):=by
 have b:=h.v.ln;have a:(yN.row (A.ns++A.nj)).size=(A.ns++A.nj).length*2:=yN.size _;rw[lP]at a;refine⟨(yN.row (A.ns++A.nj))[q*2]'(by omega),(yN.row (A.ns++A.nj))[q*2+1]'(by omega),?_,?_,h.v.aq.arr.frozen _,h.v.aq.arr.frozen _,by omega⟩
 ·rw[h.v.aq.arr.cell,Array.getElem?_eq_getElem]
 ·rw[h.v.aq.arr.cell,Array.getElem?_eq_getElem]
structure ZhP(w:World)(S:Nat)(A:SA)(f:fZ)(p:Nat)(d:Nd)(r:Ending)(w':World):Prop where
 own:own f p->r=.returned (.int .i64 p)/\Bl w w'
 no:¬Fo.own f p->aF f=0->r=.returned (.int .i64 (-1))/\Bl w w'
 yes:¬Fo.own f p->aF f≠0->r=.returned (.int .i64 (aF f))/\Sp w' S (A.setN (aF f) (A.ns.getD p nv0)) (setN f (aF f) d)/\Frm (fun k=>k=A.ga) w w'
theorem oI(i:IC f)(J:∀b d,f.n b=some d->d.2.length<=10)(w:World)(S:Nat)(A:SA)(h:Sp w S A f)(jy:f.r.length<=16)(p:Nat)(d:Nd)(hd:f.n p=some d):
  Calls Tryz.prog 69 #[.pointer (some ⟨S,0,none⟩),.int .i64 p] w (ZhP w S A f p d):=by
 have Y:=i.counts jy J;have h8:=i.n8;have sx:=i.lt hd;obtain⟨_,s1,_,_,_,s5,_⟩:=h.cells;obtain⟨gm,om,cm,qt,Aj,_,yv⟩:=nH h.v.m (by rw[i.len];omega);rw[qt]at s5;have CR:(p:Int) <(f.m.length:Int):=by rw[i.len];omega
 have x0:=yv w p rfl (by rw[i.len];exact sx);have HC:Hid (co f p=f.m.getD p 0):=rfl;have HU:Hid (cu f p=f.c.getD p 0):=rfl;have Q:=fW i Y J w S A h (by omega);have HT:=aA (nD f);have Gx:Hid (∀w',Bl w w'->Calls Tryz.prog 70 #[.pointer (some ⟨S,0,none⟩),.int .i64 (-1)] w' fun r j=>r=.returned (.int .i64 (mM f (-1)))/\Bl w j):=fun w' s=>
  (mZ i Y J w' S A (h.below s) (by omega) (-1)).mono fun r j Z=>⟨Z.1,s.trans (Z.2.mono s.size)⟩
 clear yv qt;obtain⟨y,M⟩:=eZ (f.m.getD p 0);rw[M]at x0;have v:Hid (Fo.own f p↔f.c.getD p 0=1/\y=0):=by rw[<-M];exact Iff.rfl
 clear M HC HU;obtain⟨x,L⟩:=eZ (f.c.getD p 0);have V:Hid (Calls Tryz.prog 24 #[.pointer (some ⟨S,0,none⟩)] w fun r w'=>∃g o c,r=.returned (.slice (some ⟨g,o,none⟩) f.c.length c)/\w'.cell? ⟨g,o+p,none⟩=some (.int .i64 x)/\Bl w w'):=by
  refine Q.mono ?_;rintro r w1 ⟨u,rfl,hu,m⟩;obtain⟨I,O,G,rfl,ce,_,af⟩:=nH hu.sl (by omega);have:=af w1 p rfl sx;rw[L]at this;exact⟨I,O,G,rfl,this,m⟩
 rw[L]at v;clear L Q;have Zs:(p:Int) <(f.c.length:Int):=by omega
 have HS:=aA fun(w':World) (s:Bl w w')=>h.below s;go_enter Tryz.func69,Tryz.ntmps69;by_cases t:x=1/\y=0
 ·have X:Hid (Fo.own f p):=v.out.2 t
  obtain⟨rfl,rfl⟩:=t;go_wp2_with fail;refine V.out.mono ?_;rintro r w1 ⟨I,O,G,rfl,z0,m⟩;go_wp2;go_ret;exact⟨fun _=>⟨rfl,m⟩,fun q=>absurd X.out q,fun q=>absurd X.out q⟩
 ·have R:Hid (¬Fo.own f p):=fun q=>t (v.out.1 q)
  by_cases z:y=0
  case' pos=>
   have ex:(x == 1)=false:=by rw[beq_eq_false_iff_ne];exact fun q=>t ⟨q,z⟩
   clear v;subst z;clear t;go_wp2_with fail;refine V.out.mono ?_;rintro r w1 ⟨I,O,G,rfl,z0,m⟩;go_wp2_with fail
  case' neg=>
   have ey':(y == 0)=false:=by simpa using z
   have m:Bl w w:=bQ _ _;clear v t z;obtain⟨w1,ci⟩:∃w1,w1=w:=⟨_,rfl⟩;go_wp2_with fail
  all_goals (
   refine(Gx.out _ m).mono ?_;rintro r j ⟨rfl,E⟩;rw[HT.out];by_cases l:aF f=0
   ·rw[if_pos l]
    have HL:=aA l;clear l;go_wp2;go_ret;exact⟨fun q=>absurd q R.out,fun _ _=>⟨rfl,E⟩,fun _ q=>absurd HL.out q⟩
   ·rw[if_neg l]
    obtain⟨_,N,am,_⟩:=aO l;have n:=HS.out j E;obtain⟨_,LQ,_⟩:=n.cells;obtain⟨a,c,ee,s,D,c0,c1,_⟩:=n.v.aq.at hd;obtain⟨k0,k1,gz,gh,jq,im,YI⟩:=n.wr N;have U:=(n.v.aq.nd p d hd).2;have H:=n.set2 N U;have aw:p≠aF f:=fun e=>by have:=i.a1 hd;rw[e]at this;omega
    have F:=(Frm.aa (S:=fun k=>k=A.ga) E).trans (eK j A.ga (aF f) (A.ns.getD p nv0));rw[D]at H F;have Ya:(p:Int) <(A.ns.length:Int):=by rw[h.v.ln];omega
    have T:Hid (∀P,P=(set2 j A.ga (aF f) (d.1,a,d.2.length,c)).drew->ZhP w S A f p d (.returned (.int .i64 (aF f))) P):=fun P e=>by
     rw[e];exact⟨fun q=>absurd q R.out,fun _ q=>absurd q l,fun _ _=>⟨rfl,by rw[D];exact H.drew,F.trans (Frm.drew _ _)⟩⟩
    obtain⟨q,K⟩:=eZ (aF f);rw[K]at jq im gz gh aw YI T;rw[K];clear H F U n D l am N K;have xt:S≠A.ga:=h.box.ab h.v.aq.arr (by decide);have P9:Hid (∀B C,((j.setCell ⟨A.ga,q*2,none⟩ B).setCell ⟨A.ga,q*2+1,none⟩ C).drew.cell? ⟨S,1,none⟩=some (.slice (some ⟨A.ga,0,none⟩) A.ns.length (A.ns.length+A.nj.length))/\((j.setCell ⟨A.ga,q*2,none⟩ B).setCell ⟨A.ga,q*2+1,none⟩ C).drew.cell? ⟨A.ga,p*2,none⟩=some (.int .i64 d.1)/\((j.setCell ⟨A.ga,q*2,none⟩ B).setCell ⟨A.ga,q*2+1,none⟩ C).drew.cell? ⟨A.ga,p*2+1,none⟩=some (.slice a d.2.length c)):=fun B C=>by
     rw[jO _ _ _ _ _ (.inl xt),jO _ _ _ _ _ (.inr ⟨by omega,by omega⟩),jO _ _ _ _ _ (.inr ⟨by omega,by omega⟩)];exact⟨LQ,c0,c1⟩
    go_wp2
    go_region_held3 (fun W=>W.cell? ⟨S,1,none⟩=some (.slice (some ⟨A.ga,0,none⟩) A.ns.length (A.ns.length+A.nj.length))/\W.cell? ⟨A.ga,p*2,none⟩=some (.int .i64 d.1)/\W.cell? ⟨A.ga,p*2+1,none⟩=some (.slice a d.2.length c)) (first | exact P9.out _ _ | go_keep) ((fail))
    go_wp2
    go_ret
    exact T.out _ rfl)
theorem Ely.Sl.dw{Y:Ely α}{l:List α}(h:Y.Sl w (.slice (some ⟨g,o,none⟩) len cap) l)(k:Nat)(j:k<=l.length)(c:Nat):Y.Sl w (.slice (some ⟨g,o+k*Y.n,none⟩) (l.length-k) c) (l.drop k):=by
 rcases h with⟨e,_⟩ | ⟨g',f,a,xs,e,b,i,d⟩
 ·cases e
 ·cases e
  refine .inr ⟨g,f+k,c,xs,by rw[Nat.add_mul,List.length_drop],b,by rw[List.length_drop];omega,?_⟩;rw[List.length_drop,<-List.drop_drop];conv=>rhs;rw[<-d];rw[List.drop_take]
theorem Ely.Sl.takeN{Y:Ely α}{l:List α}(h:Y.Sl w (.slice (some ⟨g,o,none⟩) len cap) l)(k:Nat)(a:k<=l.length)(c:Nat):Y.Sl w (.slice (some ⟨g,o,none⟩) k c) (l.take k):=by
 rcases h with⟨e,_⟩ | ⟨g',i,b,xs,e,d,j,f⟩
 ·cases e
 ·cases e
  refine .inr ⟨g,i,c,xs,by rw[List.length_take,Nat.min_eq_left a],d,by rw[List.length_take];omega,?_⟩;rw[List.length_take,Nat.min_eq_left a];conv=>rhs;rw[<-f];rw[List.take_take,Nat.min_eq_left a]
theorem Ely.Own.nv{l:List E3}(h:yE.Own b w u l)(k:Int):∃x:NV,u=.slice x.2.1 x.2.2.1 x.2.2.2/\x.1=k/\NdR w x (k,l):=by
 obtain⟨a,c,rfl,d,e⟩:=h;exact⟨(k,adr a,l.length,l.length+c.length),rfl,rfl,rfl,d.sl,Nat.le_add_right _ _⟩
theorem bY{W:World}{x v0 v1:Value}{B:Nat}(a:B≠g)(h:W.cell? ⟨B,o,none⟩=some x):((W.setCell ⟨g,q*2,none⟩ v0).setCell ⟨g,q*2+1,none⟩ v1).drew.cell? ⟨B,o,none⟩=some x:=by
 rw[jO _ _ _ _ _ (.inl a)];exact h
structure SaS(A A':SA):Prop where
 ga:A'.ga=A.ga
 nj:A'.nj=A.nj
 gr:A'.gr=A.gr
 rj:A'.rj=A.rj
 cv:A'.cv=A.cv
 tv:A'.tv=A.tv
theorem SaS.refl(A:SA):SaS A A:=⟨rfl,rfl,rfl,rfl,rfl,rfl⟩
theorem SaS.trans{A B C:SA}(h:SaS A B)(k:SaS B C):SaS A C:=⟨k.ga.trans h.ga,k.nj.trans h.nj,k.gr.trans h.gr,k.rj.trans h.rj,k.cv.trans h.cv,k.tv.trans h.tv⟩
theorem SaS.setN(A:SA)(q:Nat)(x:NV):SaS A (A.setN q x):=⟨rfl,rfl,rfl,rfl,rfl,rfl⟩
structure Zt(w:World)(S:Nat)(A:SA)(g:fZ)(w':World):Prop where
 ex:∃A',Sp w' S A' g/\SaS A A'
 ae:Frm (fun k=>k=A.ga) w w'
theorem sV(w:World)(S:Nat)(A:SA)(h:Sp w S A f)(b q:Nat)(k:Int)(es:List E3)(hd:f.n b=some (k,es))(G:es.length=5)(e:b<f.c.length)(U:q<f.c.length)(qo:b≠q):
  Calls Tryz.prog 71 #[.pointer (some ⟨S,0,none⟩),.int .i64 b,.int .i64 q] w fun r w'=>r=.returned (.tuple #[])/\Zt w S A (setN (setN f q (k,es.drop 3)) b (k,es.take 3)) w':=by
 have sv:=gY;obtain⟨_,s1,_⟩:=h.cells;obtain⟨a,c,E,eX,Av,c0,c1,qr⟩:=h.v.aq.at hd;obtain⟨g,o,cp',he,hg,_⟩:=eG E (by simp only;omega);cases he;have Fe:(b:Int) <(A.ns.length:Int):=by omega
 have VP:(q:Int) <(A.ns.length:Int):=by rw[h.v.ln];omega
 simp only at c0 c1 qr E
 obtain⟨B,hB⟩:=eZ (w.heap.size);obtain⟨w0,mw⟩:=eZ (w.alloc (.cells #[.int .i64 k,.slice (some ⟨g,o,none⟩) 5 c] 96));rw[G]at qr;have Lm:¬c=3:=by omega
 have KC:(3:Int)<=(c:Int):=by omega
 have V:yE.Sl w (.slice (some ⟨g,o+9,none⟩) 2 (c-3)) (es.drop 3):=by have:=E.dw 3 (by omega) (c-3);rw[G]at this;exact this
 have VX:yE.Sl w (.slice (some ⟨g,o,none⟩) 3 c) (es.take 3):=E.takeN 3 (by omega) c;rw[G]at c1;have O:Bl w w0:=by rw[<-mw];exact(bQ w.heap.size w).alloc (nR _) _
 have m:=iNw mw hB;have xt:S≠A.ga:=h.box.ab h.v.aq.arr (by decide);have z:B≠A.ga:=by have:=h.v.aq.arr.lt;omega
 have t:=h.below O;obtain⟨_,M,_⟩:=t.cells;have b0:w0.cell? ⟨B,0,none⟩=some (.int .i64 k):=m.c rfl;have b1:w0.cell? ⟨B,1,none⟩=some (.slice (some ⟨g,o,none⟩) 5 c):=m.c rfl;have BE:Hid (Calls Tryz.prog 90 #[.slice (some ⟨g,o+9,none⟩) 2 (c-3),.slice none 0 0] w0.drew fun r w'=>∃x:NV,r=.returned (.slice x.2.1 x.2.2.1 x.2.2.2)/\x.1=k/\NdR w' x (k,es.drop 3)/\Bl w0 w'):=by
  refine(mY _ _ (es.drop 3) [] w0.drew (V.below O.drew) (.inl ⟨rfl,rfl⟩) (by simp;omega) (by simp)).mono ?_;rintro r w1 ⟨u,rfl,H,i⟩;rw[List.append_nil]at H;obtain⟨x,rfl,p,s⟩:=H.nv k;exact⟨x,rfl,p,s,(bQ w0.heap.size w0).drew.trans i⟩
 have V5:Hid (∀d:World,Frm (fun k=>k=A.ga) w d->Calls Tryz.prog 90 #[.slice (some ⟨g,o,none⟩) 3 c,.slice none 0 0] d.drew fun r w'=>∃x:NV,r=.returned (.slice x.2.1 x.2.2.1 x.2.2.2)/\x.1=k/\NdR w' x (k,es.take 3)/\Bl d w'):=fun d hF=>by
  refine(mY _ _ (es.take 3) [] d.drew (VX.ae (hF.trans (Frm.drew _ _)) fun g cs hg=>hg.ab h.v.aq.arr (by decide)) (.inl ⟨rfl,rfl⟩) (by simp;omega) (by simp)).mono ?_;rintro r w1 ⟨u,rfl,H,i⟩;rw[List.append_nil]at H;obtain⟨x,rfl,p,s⟩:=H.nv k;exact⟨x,rfl,p,s,(bQ d.heap.size d).drew.trans i⟩
 have HS:=aA t;have Y:=aA m;obtain⟨f0,f1,Xt,qe,L,K,_⟩:=t.wr U;have HC:Hid (∀w1:World,Bl w0 w1->w1.cell? ⟨S,1,none⟩=some (.slice (some ⟨A.ga,0,none⟩) A.ns.length (A.ns.length+A.nj.length))/\w1.cell? ⟨B,0,none⟩=some (.int .i64 k)/\w1.cell? ⟨B,1,none⟩=some (.slice (some ⟨g,o,none⟩) 5 c)):=fun w1 e=>by
  refine⟨(t.below e).cells.2.1,?_,?_⟩
  ·rw[(m.of (e.block _ m.lt)).cell];rfl
  ·rw[(m.of (e.block _ m.lt)).cell];rfl
 have HW:Hid (∀w1:World,Bl w0 w1->∃j l,w1.cell? ⟨A.ga,q*2,none⟩=some j/\w1.cell? ⟨A.ga,q*2+1,none⟩=some l/\w1.frozen? ⟨A.ga,q*2,none⟩=false/\w1.frozen? ⟨A.ga,q*2+1,none⟩=false):=fun w1 e=>by
  obtain⟨j,l,p,s,R,T,_⟩:=(t.below e).wr U;exact⟨j,l,p,s,R,T⟩
 have H5:=aA G;clear G V VX E m t;go_enter Tryz.func71,Tryz.ntmps71;go_wp2;go_region_held3 (fun W=>W.cell? ⟨S,1,none⟩=some (.slice (some ⟨A.ga,0,none⟩) A.ns.length (A.ns.length+A.nj.length))/\W.cell? ⟨B,0,none⟩=some (.int .i64 k)/\W.cell? ⟨B,1,none⟩=some (.slice (some ⟨g,o,none⟩) 5 c)) (first | assumption | go_keep | exact⟨bY xt D,bY z F,bY z I⟩) ((go_at_call 90;refine BE.out.mono ?_;rintro r w1 ⟨x,rfl,wv,BB,i⟩;obtain⟨D,F,I⟩:=HC.out w1 i;obtain⟨j,l,Q,P,L,K⟩:=HW.out w1 i));have C:Sp (set2 w1 A.ga q x) S (A.setN q x) (setN f q (k,es.drop 3)):=(HS.out.below i).set2 U BB;have dh:(w1.setCell ⟨A.ga,q*2,none⟩ (.int .i64 k)).setCell ⟨A.ga,q*2+1,none⟩ (.slice x.2.1 x.2.2.1 x.2.2.2)=set2 w1 A.ga q x:=by unfold set2;rw[wv]
 rw[dh];have N:Frm (fun k=>k=A.ga) w (set2 w1 A.ga q x):=((Frm.aa O).trans (Frm.aa i)).trans (eK w1 A.ga q x);have n:IsC (set2 w1 A.ga q x) B #[.int .i64 k,.slice (some ⟨g,o,none⟩) 5 c] 96:=(Y.out.of (i.block _ Y.out.lt)).ae (eK w1 A.ga q x) z;generalize set2 w1 A.ga q x=d at *;obtain⟨_,M,_⟩:=C.cells;have b0:d.cell? ⟨B,0,none⟩=some (.int .i64 k):=n.c rfl;have b1:d.cell? ⟨B,1,none⟩=some (.slice (some ⟨g,o,none⟩) 5 c):=n.c rfl;have X:Hid ((A.setN q x).ns.length=A.ns.length):=by simp[SA.setN,Hid]
 have t1':d.cell? ⟨S,1,none⟩=some (.slice (some ⟨A.ga,0,none⟩) A.ns.length (A.ns.length+A.nj.length)):=by rw[X.out]at M;exact M
 have Cb:Hid (∀w1:World,Bl d w1->w1.cell? ⟨S,1,none⟩=some (.slice (some ⟨A.ga,0,none⟩) A.ns.length (A.ns.length+A.nj.length))/\w1.cell? ⟨B,0,none⟩=some (.int .i64 k)/\w1.cell? ⟨B,1,none⟩=some (.slice (some ⟨g,o,none⟩) 5 c)):=fun w1 e=>by
  refine⟨?_,?_,?_⟩
  ·have:=(C.below e).cells.2.1
   rw[X.out]at this;exact this
  ·rw[(n.of (e.block _ n.lt)).cell];rfl
  ·rw[(n.of (e.block _ n.lt)).cell];rfl
 have EB:Hid (∀w1:World,Bl d w1->∃j l,w1.cell? ⟨A.ga,b*2,none⟩=some j/\w1.cell? ⟨A.ga,b*2+1,none⟩=some l/\w1.frozen? ⟨A.ga,b*2,none⟩=false/\w1.frozen? ⟨A.ga,b*2+1,none⟩=false):=fun w1 wj=>by
  obtain⟨j,l,p,s,R,T,_⟩:=(C.below wj).wr (q:=b) e;exact⟨j,l,p,s,R,T⟩
 have pq:=aA C;have sj:=aA N;have Z:=V5.out d N;have V6:=aA Z;clear D F I Q P L K C n Z M Xt qe dh N;go_wp2;go_region_held3 (fun W=>W.cell? ⟨S,1,none⟩=some (.slice (some ⟨A.ga,0,none⟩) A.ns.length (A.ns.length+A.nj.length))/\W.cell? ⟨B,0,none⟩=some (.int .i64 k)/\W.cell? ⟨B,1,none⟩=some (.slice (some ⟨g,o,none⟩) 5 c)) (first | assumption | go_keep | exact⟨bY xt D,bY z F,bY z I⟩) ((go_at_call 90;refine V6.out.mono ?_;rintro r v ⟨y,rfl,Df,AO,J⟩;obtain⟨D,F,I⟩:=Cb.out v J;obtain⟨j,l,Q,P,L,K⟩:=EB.out v J));have cx:(v.setCell ⟨A.ga,b*2,none⟩ (.int .i64 k)).setCell ⟨A.ga,b*2+1,none⟩ (.slice y.2.1 y.2.2.1 y.2.2.2)=set2 v A.ga b y:=by unfold set2;rw[Df]
 rw[cx];have HR:Hid (Zt w S A (setN (setN f q (k,es.drop 3)) b (k,es.take 3)) (set2 v A.ga b y)):=
  ⟨⟨_,(pq.out.below J).set2 (q:=b) e AO,(SaS.setN A q x).trans (SaS.setN _ b y)⟩,(sj.out.trans (Frm.aa J)).trans (eK v A.ga b y)⟩
 clear cx D F I Q P L K;go_wp2;exact⟨rfl,.tuple #[],by simp[results,Tryz.f71,go_sem],rfl,HR.out⟩
theorem aOX(W:World)(k v:ByteArray):(Instr.build 130 #[(0,.string k),(1,.string v)]).run Tryz.prog W=.ok (.agg #[.string k,.string v,.int .i64 0]) W:=by kernel_rfl
structure ZpP(w:World)(S:Nat)(A:SA)(r:Option fZ)(e:Ending)(w':World):Prop where
 no:r=none->e=.returned (.bool false)/\Frm (fun k=>k=A.ga) w w'
 yes:∀g,r=some g->e=.returned (.bool true)/\Zt w S A g w'
theorem Sp.store{w1:World}{A:SA}(h:Sp w S A f)(a:Bl w w1)(b:q<f.c.length)(hx:NdR w1 x d):Zt w S A (Fo.setN f q d) (Go.Proofs.YtmpagpeenjddgaaGreat.set2 w1 A.ga q x):=
 ⟨⟨_,(h.below a).set2 b hx,SaS.setN A q x⟩,(Frm.aa a).trans (eK w1 A.ga q x)⟩
theorem dM{k:Int}(h:x.1=k):(w.setCell ⟨g,q*2,none⟩ (.int .i64 k)).setCell ⟨g,q*2+1,none⟩ (.slice x.2.1 x.2.2.1 x.2.2.2)=set2 w g q x:=by unfold set2;rw[h]
theorem Sp.ck{A:SA}(h:Sp w S A f)(v:Value)(es:List E3)(i:Nat)(e:E3)(o:yE.Sl w v es)(l:i<es.length)(m:es.length<=100)(k:Int)(j:b<f.c.length):
  Calls Tryz.prog 76 #[v,.int .i64 i,.agg #[.string e.1,.string e.2.1,.int .i64 e.2.2]] w.drew fun r w'=>∃x:NV,r=.returned (.slice x.2.1 x.2.2.1 x.2.2.2)/\x.1=k/\NdR w' x (k,es.set i e)/\Bl w w'/\w'.cell? ⟨S,1,none⟩=some (.slice (some ⟨A.ga,0,none⟩) A.ns.length (A.ns.length+A.nj.length))/\
   ∃k0 k1,w'.cell? ⟨A.ga,b*2,none⟩=some k0/\w'.cell? ⟨A.ga,b*2+1,none⟩=some k1/\w'.frozen? ⟨A.ga,b*2,none⟩=false/\w'.frozen? ⟨A.ga,b*2+1,none⟩=false:=by
 refine(eU v es i e w.drew (o.below (bQ _ w).drew) l m).mono ?_;rintro r w1 ⟨u,rfl,n,c⟩;obtain⟨x,rfl,d,g⟩:=n.nv k;have a:Bl w w1:=(bQ _ w).drew.trans c;obtain⟨k0,k1,p,q,s,t,_⟩:=(h.below a).wr j;exact⟨x,rfl,d,g,a,(h.below a).cells.2.1,k0,k1,p,q,s,t⟩
theorem Sp.b7{A:SA}(h:Sp w S A f)(v:Value)(es:List E3)(i:Nat)(e:E3)(o:yE.Sl w v es)(l:i<=es.length)(m:es.length<=100)(k:Int)(j:b<f.c.length):
  Calls Tryz.prog 91 #[v,.int .i64 i,.agg #[.string e.1,.string e.2.1,.int .i64 e.2.2]] w.drew fun r w'=>∃x:NV,r=.returned (.slice x.2.1 x.2.2.1 x.2.2.2)/\x.1=k/\NdR w' x (k,insE es i e)/\Bl w w'/\w'.cell? ⟨S,1,none⟩=some (.slice (some ⟨A.ga,0,none⟩) A.ns.length (A.ns.length+A.nj.length))/\
   ∃k0 k1,w'.cell? ⟨A.ga,b*2,none⟩=some k0/\w'.cell? ⟨A.ga,b*2+1,none⟩=some k1/\w'.frozen? ⟨A.ga,b*2,none⟩=false/\w'.frozen? ⟨A.ga,b*2+1,none⟩=false:=by
 refine(oH v es i e w.drew (o.below (bQ _ w).drew) l m).mono ?_;rintro r w1 ⟨u,rfl,n,c⟩;obtain⟨x,rfl,d,g⟩:=n.nv k;have a:Bl w w1:=(bQ _ w).drew.trans c;obtain⟨k0,k1,p,q,s,t,_⟩:=(h.below a).wr j;exact⟨x,rfl,d,g,a,(h.below a).cells.2.1,k0,k1,p,q,s,t⟩
theorem xG(w:World)(S:Nat)(A:SA)(h:Sp w S A f)(b:Nat)(es:List E3)(key val:ByteArray)(hd:f.n b=some (1,es))(I:Srt es)(X:∀i,i<es.length->(es.getD i e0).2.2=0)(h5:es.length<=10)(n:b<f.c.length):
  Calls Tryz.prog 72 #[.pointer (some ⟨S,0,none⟩),.int .i64 b,.string key,.string val] w fun e w'=>e=.returned (.bool true)/\Zt w S A (setN f b (1,putE es key val)) w':=by
 have sv:=gY;have GX:=aOX;obtain⟨_,s1,_⟩:=h.cells;obtain⟨a,c,l,eX,R,c0,c1,qr⟩:=h.v.aq.at hd;simp only at l c0 c1;have F:0<es.length->_:=fun h=>eG l h;have Fe:(b:Int) <(A.ns.length:Int):=by omega
 have Q:S≠A.ga:=h.box.ab h.v.aq.arr (by decide);have q:=aA fun(i:Nat) (H:i<es.length)=>h.ck (.slice a es.length c) es i (key,val,0) l H (by omega) 1 n;have p:=aA fun(i:Nat) (H:i<=es.length)=>h.b7 (.slice a es.length c) es i (key,val,0) l H (by omega) 1 n;clear l R qr;go_enter Tryz.func72,Tryz.ntmps72;go_wp2;go_loopw [10,11] (fun u k wr=>∃j:Nat,j<=es.length/\k=.int .i64 j/\Is2 u (.int .i64 (rI es key j)) wr w/\Hid (∀x,x<j->ky es x≠key)) (fun _ k _=>es.length -(intOf k).toNat)
 case atStart=>exact⟨0,by omega,rfl,⟨rfl,rfl⟩,fun x hx=>by omega⟩
 case round=>
  obtain⟨j,hj,rfl,⟨rfl,rfl⟩,O⟩:=hrel;by_cases D:j<es.length
  ·obtain⟨g,o,c',d,hg,N⟩:=F (by omega)
   cases d
   obtain⟨x0,x1,x2⟩:=N wr j rfl D;have d9:(j:Int) <(es.length:Int):=by omega
   have t:Hid (ky es j=(es.getD j e0).1):=rfl;clear F N;generalize (es.getD j e0).1=x at *;by_cases d:x=key
   ·have v:=aA (aJM (val:=val) I X D (t.out.trans d))
    have Y:(x.toList == key.toList)=true:=by rw[d];exact beq_self_eq_true _
    clear d;have M:=q.out j D;have C:=aA M;clear M q p;go_wp2;go_region_held3 (fun W=>W.cell? ⟨S,1,none⟩=some (.slice (some ⟨A.ga,0,none⟩) A.ns.length (A.ns.length+A.nj.length))) (first | assumption | go_keep | exact bY Q G) ((go_at_call 76;refine C.out.mono ?_;rintro r w1 ⟨y,rfl,J,s,E,G,k0,k1,V,U,jq,Z⟩));rw[dM J];have B:Hid (Zt wr S A (setN f b (1,putE es key val)) (set2 w1 A.ga b y)):=by rw[v.out];exact h.store E n s
    go_wp2
    go_ret
    exact⟨rfl,B.out⟩
   ·have Y:(x.toList == key.toList)=false:=by rw[beq_eq_false_iff_ne];exact fun e=>d (gX e)
    have K:Hid (∀z,z<j+1->ky es z≠key):=fun z hz=>by
     by_cases e:z=j
     ·rw[e,t.out];exact d
     ·exact O.out z (by omega)
    have m:Hid (rI es key (j+1)=if kl (ky es j) key=true then j+1 else rI es key j):=rfl;have L:Hid (kl (ky es j) key=Op.bytesLess x.toList key.toList):=by show kl (ky es j) key=_;rw[t.out];rfl
    clear d q p;cases P:Op.bytesLess x.toList key.toList with
    | true=>
     rw[L.out,if_pos P]at m;go_wp2;go_roundw
     case rel=>exact⟨j+1,by omega,by go_num,⟨by rw[m.out];go_num,rfl⟩,K.out⟩
     case measure=>simp[intOf];omega
    | false=>
     rw[L.out,if_neg (by rw[P];simp)]at m;go_wp2;go_roundw
     case rel=>exact⟨j+1,by omega,by go_num,⟨by rw[m.out],rfl⟩,K.out⟩
     case measure=>simp[intOf];omega
  ·obtain rfl:j=es.length:=by omega
   have v:=aA (aMB (val:=val) I O.out);have oh:rI es key es.length<=es.length:=by rw[yG I];exact kV _ _
   have C:=aA (p.out _ oh);generalize rI es key es.length=T at *;clear q p F;go_wp2;go_region_held3 (fun W=>W.cell? ⟨S,1,none⟩=some (.slice (some ⟨A.ga,0,none⟩) A.ns.length (A.ns.length+A.nj.length))) (first | assumption | go_keep | exact bY Q G) ((go_at_call 91;refine C.out.mono ?_;rintro r w1 ⟨x,rfl,J,s,E,G,k0,k1,V,U,jq,Z⟩));rw[dM J];have B:Hid (Zt wr S A (setN f b (1,putE es key val)) (set2 w1 A.ga b x)):=by rw[v.out];exact h.store E n s
   go_wp2
   go_ret
   exact⟨rfl,B.out⟩
