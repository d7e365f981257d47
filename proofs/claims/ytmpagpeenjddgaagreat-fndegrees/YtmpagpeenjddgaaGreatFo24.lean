import Derived.Test.YtmpagpeenjddgaaGreatFo19
set_option linter.all false
namespace Go.Proofs.YtmpagpeenjddgaaGreat.Fo
variable{key val:ByteArray}{es:List E3}{P:List Nat}{H b c h i k l m n t:Nat}{K:Nat->List Nat}{ht:Nat->Nat}{nodes nodes':Nat->Option Nd}{d:Nd}{hi lo:OB}{f f' f0 g:fZ}
theorem Mem.bl{U:Nat->Prop}(e:∀x d,U x->nodes x=some d->∀c∈kids d,U c)(he:∀x,U x->nodes' x=nodes x)(f:U b):Mem nodes h b key↔Mem nodes' h b key:=
 ⟨Mem.frame e he h b f,Mem.frame (fun x d a i c g=>e x d a (by rw[<-he x a];exact i) c g) (fun x a=>(he x a).symm) h b f⟩
theorem kS.iff(g:∀c∈kids d,∀h',Mem nodes h' c key↔Mem nodes' h' c key):kS nodes h d key↔kS nodes' h d key:=by
 obtain⟨k,es⟩:=d;cases h with
 | zero=>exact Iff.rfl
 | succ h=>
  constructor
  ·rintro⟨b,e,a,f⟩;simp only at b a;subst b;exact⟨rfl,e,a,(g _ (aY.2 ⟨e,a,rfl⟩) h).1 f⟩
  ·rintro⟨b,e,a,f⟩;simp only at b a;subst b;exact⟨rfl,e,a,(g _ (aY.2 ⟨e,a,rfl⟩) h).2 f⟩
theorem kS.cut{k:Int}(m:Nat):kS nodes h (k,es) key↔kS nodes h (k,es.take m) key\/kS nodes h (k,es.drop m) key:=by
 have d:∀e,e∈es↔e∈es.take m\/e∈es.drop m:=fun e=>by rw[<-List.mem_append,List.take_append_drop]
 cases h with
 | zero=>
  constructor
  ·rintro⟨a,e,c,b⟩
   rcases(d e).1 c with q | q
   ·exact .inl ⟨a,e,q,b⟩
   ·exact .inr ⟨a,e,q,b⟩
  ·rintro(⟨a,e,c,b⟩ | ⟨a,e,c,b⟩)
   ·exact⟨a,e,(d e).2 (.inl c),b⟩
   ·exact⟨a,e,(d e).2 (.inr c),b⟩
 | succ h=>
  constructor
  ·rintro⟨a,e,c,b⟩
   rcases(d e).1 c with q | q
   ·exact .inl ⟨a,e,q,b⟩
   ·exact .inr ⟨a,e,q,b⟩
  ·rintro(⟨a,e,c,b⟩ | ⟨a,e,c,b⟩)
   ·exact⟨a,e,(d e).2 (.inl c),b⟩
   ·exact⟨a,e,(d e).2 (.inr c),b⟩
theorem Wk.b9(w:Wk f t H)(p:aO f t H P b (h+1) lo hi)(e:f.n b=some (2,es))(key a:ByteArray):
  Mem f.n (h+1) b a↔Mem (setN f b (2,lowK es key)).n (h+1) b a:=by
 obtain⟨_,n,_,o⟩:=p.inner w;rw[e]at n;cases n;have k:(setN f b (2,lowK es key)).n b=some (2,lowK es key):=aE _ _ _;obtain⟨U,y,r,s⟩:=p.cl w.ic w.tl e (nodes':=(setN f b (2,lowK es key)).n) (fun _=>False) (fun _ q=>q.elim) (fun x d v z _=>by show upd _ _ _ x=_;rw[aC _ _ z];exact v);have l:∀j,j<es.length->(Mem f.n h (kd es j) a↔Mem (setN f b (2,lowK es key)).n h (kd es j) a):=fun j c=>by
  obtain⟨d,u⟩:=w.ic.af e (aR c);exact Mem.bl y r (s _ d u (p.ax w.ic e (aR c)) id)
 have m:∀j,kd (lowK es key) j=kd es j:=fun j=>by unfold kd ch;rw[(zW es key j o).1]
 constructor
 ·rintro⟨es',g,j,c,i⟩
  rw[e]at g;cases g;exact⟨_,k,j,by rw[cM];exact c,by rw[m];exact(l j c).1 i⟩
 ·rintro⟨es',g,j,c,i⟩
  rw[k]at g;cases g;rw[cM]at c;rw[m]at i;exact⟨es,e,j,c,(l j c).2 i⟩
theorem Wk.cc(w:Wk f t H)(p:aO f t H P b (h+1) lo hi)(j:f.n b=some (2,es))(hi':i<es.length)(a:shadow f (.ai b i)=some (g,c))(key:ByteArray)(s:Nat):
  Mem f.n s (kd es i) key↔Mem g.n s c key:=by
 have O:look f b=(2,es):=aF j;have z:bN f (.ai b i)=kd es i:=by simp only[bN,O];rfl
 unfold shadow at a;rw[z]at a;by_cases A:own f (kd es i)
 ·rw[if_pos A]at a;cases a;exact Iff.rfl
 ·rw[if_neg A]at a
  by_cases o:aG f=0
  ·rw[if_pos o]at a;cases a
  ·rw[if_neg o]at a;cases a
   obtain⟨N,S,y,_⟩:=aP o;generalize aG f=q at *;obtain⟨d,k⟩:=w.ic.af j (aR hi');have L:dU f (.ai b i):=⟨w.ic.lt j,es,j,hi'⟩;obtain⟨Z,r,I3,I4,I5⟩:=w.ic.shadow L z k N S y;have n:f.n q=none:=(w.ic.bb.dead q).2 y;have eS:=aR hi';have D:kd es i≠q:=fun e=>by rw[e,n]at k;cases k
   have C:b≠q:=fun e=>by rw[e,n]at j;cases j
   have E:=w.ic.ag k;have nq:(shadowAt f (.ai b i) q).n q=some d:=by
    rw[r];unfold shN cpN;simp only;split
    ·rw[aC _ _ (Ne.symm D),aC _ _ (Ne.symm C),aE]
    ·rw[aC _ _ (Ne.symm C),aE]
   have T:∀x,x≠b->x≠q->¬(x=kd es i/\cu f (kd es i)=1)->(shadowAt f (.ai b i) q).n x=f.n x:=fun x u v K=>by
    rw[r];unfold shN cpN;simp only;split
    ·rename_i X
     rw[aC _ _ (fun e=>K ⟨e,X⟩),aC _ _ u,aC _ _ v]
    ·rw[aC _ _ u,aC _ _ v]
   have I:∀{x:Nat} {d':Nd},f.n x=some d'->x≠q:=fun l e=>by rw[e,n]at l;cases l
   obtain⟨U,R,J,M⟩:=p.cl w.ic w.tl j (nodes':=(shadowAt f (.ai b i) q).n) (fun x=>x=kd es i/\cu f (kd es i)=1) (fun x ⟨B,W⟩=>⟨by rw[B];exact W,by rw[B];exact eS⟩) (fun x d l Y F=>by rw[T x Y (I l) F];exact l);rw[cA nq,cA k];refine kS.iff fun c m Xh=>?_;obtain⟨G,Q⟩:=w.ic.af k m;exact Mem.bl R J (M c G Q (p.az w.ic j eS k m).1 fun V=>E (V.1▸m))
theorem Wk.cr(w:Wk f t H)(p:aO f t H P b (h+1) lo hi)(a:f.n b=some (2,es))(hi':i<es.length){k:Int}{ces:List E3}(hd:f.n (kd es i)=some (k,ces))(h1:cu f (kd es i)=1)
  {m q:Nat} (K:q<f.c.length) (hc:cu f q=0) (S:2<=m) (T:m+2<=ces.length) (E:2<=q) (key:ByteArray):
  let f':=splitF f b es i (kd es i) k ces m q (ky ces m)
  Mem f.n h (kd es i) key↔Mem f'.n h (kd es i) key\/Mem f'.n h q key:=by
 intro f';obtain⟨R,j⟩:=w.ic.split (key:=ky ces m) (m:=m) a hi' (rfl:kd es i=_) hd (by omega) (by omega) E K hc;have n:f.n q=none:=(w.ic.bb.dead q).2 hc;have eS:=aR hi';have J:kd es i≠b:=fun e=>w.ic.ag a (by rw[<-e];exact eS);have r:kd es i≠q:=fun e=>by rw[e,n]at hd;cases hd
 have O:b≠q:=fun e=>by rw[e,n]at a;cases a
 have s:=w.ic.ag hd;have nq:f'.n q=some (k,ces.drop m):=by rw[j,aC _ _ (Ne.symm O),aE]
 have I:f'.n (kd es i)=some (k,ces.take m):=by rw[j,aC _ _ J,aC _ _ r,aE]
 have L:∀x,x≠b->x≠q->x≠kd es i->f'.n x=f.n x:=fun x h1 A B=>by rw[j,aC _ _ h1,aC _ _ A,aC _ _ B]
 have y:∀{x:Nat} {d':Nd},f.n x=some d'->x≠q:=fun g e=>by rw[e,n]at g;cases g
 obtain⟨U,G,z,C⟩:=p.cl w.ic w.tl a (nodes':=f'.n) (fun x=>x=kd es i) (fun x N=>by rw[N];exact⟨h1,eS⟩) (fun x d g Q u=>by rw[L x Q (y g) u];exact g);have D:∀c∈kids (k,ces),∀o,Mem f.n o c key↔Mem f'.n o c key:=fun c l o=>by
  obtain⟨v,F⟩:=w.ic.af hd l;exact Mem.bl G z (C c v F (p.az w.ic a eS hd l).1 fun M=>s (M▸l))
 rw[cA nq,cA I,cA hd,kS.iff D,kS.cut m]
theorem Wk.bS(w:Wk f t H)(p:aO f t H P b (h+1) lo hi)(hl:loR lo key)(B:sz f.n b<5)(d:Fo.stepDown f b key=some (g,c)):
  Mem f.n (h+1) b key↔Mem g.n h c key:=by
 obtain⟨es,r,ur,Z⟩:=p.inner w;have hz:es.length<5:=by unfold sz at B;rw[r]at B;exact B
 obtain⟨w1,I,r1⟩:=w.bw p r key hl;have N:=w.b9 p r key key;unfold Fo.stepDown at d;rw[aF r]at d;simp only at d;generalize hK:lowK es key=a at *;have u:(setN f b (2,a)).n b=some (2,a):=aE _ _ _;have M:a.length=es.length:=by rw[<-hK];exact cM es key
 have mi:a≠[]:=fun e=>Z (List.length_eq_zero_iff.1 (by rw[<-M,e];rfl));have v:bL a key<a.length:=eJ key mi;have O:Mem (setN f b (2,a)).n (h+1) b key↔Mem (setN f b (2,a)).n h (kd a (bL a key)) key:=⟨fun D=>Mem.at u (I.ok w1.ok).1 D,fun D=>⟨a,u,_,v,D⟩⟩;generalize bL a key=i at *;cases s:shadow (setN f b (2,a)) (.ai b i)with
 | none=>rw[s]at d;cases d
 | some gc=>
  obtain⟨g1,c1⟩:=gc;rw[s]at d;simp only at d;obtain⟨J,V,p3,⟨A,F,U,m3,o⟩,m5,G,m7,m8,m9⟩:=w1.aj I u v s;have Q:=w1.cc I u v s key h;obtain⟨⟨k,l⟩,C⟩:=J.ic.live (x:=c1) (by rw[G];omega);rw[aF C]at d;simp only at d;by_cases j:l.length=5
  ·rw[if_pos j]at d
   by_cases n:aG g1=0
   ·rw[if_pos n]at d;cases d
   ·rw[if_neg n,aF F]at d
    simp only at d
    obtain⟨R,S,T,l4⟩:=aP n;have Y:i<A.length:=by rw[U];exact v
    obtain⟨K,p4,W,X,n1,n2,n3,n4⟩:=J.split V F (by rw[U,M];exact hz) Y (by rw[o];exact C) (by rw[o];exact G) (m:=3) (by omega) (by omega) R S T;have E:=J.cr V F Y (by rw[o];exact C) (by rw[o];exact G) (m:=3) S T (by omega) (by omega) R key;rw[o]at K p4 W X n1 n2 n3 n4 E;simp only[sJ,Prod.mk.injEq]at d;obtain⟨rfl,rfl⟩:=d;simp only at E;rw[N,O,Q,E];by_cases y:kl key (ky l 3)=true
    ·rw[if_pos y]
     refine⟨fun q=>q.resolve_right fun q=>?_,.inl⟩;have z:=(Mem.bounds (X.ok K.ok).1 q).1;have L:kl key (ky l 3)=false:=z;rw[y]at L;cases L
    ·rw[if_neg y]
     refine⟨fun q=>q.resolve_left fun q=>?_,.inr⟩;have z:=(Mem.bounds (W.ok K.ok).1 q).2;exact y z
  ·rw[if_neg j]at d
   simp only[sJ,Prod.mk.injEq]at d;obtain⟨rfl,rfl⟩:=d;rw[N,O,Q]
theorem lJ:∀{h:Nat} {f:fZ} (w:Wk f t H) {P:List Nat} {b:Nat} {lo hi:OB} (p:aO f t H P b h lo hi) (hl:loR lo key) (hh:hiR hi key) (h5:sz f.n b<5) {g:fZ} {th:Bool} (hs:putAt h f b key val=some (g,th)),
  th=true↔Mem f.n h b key
 | 0,f,w,P,b,lo,hi,p,hl,hh,h5,g,th,hs=>by
  obtain⟨es,c,l,z⟩:=p.leaf w;unfold putAt at hs;rw[aF c]at hs;simp only[sJ,Prod.mk.injEq]at hs;obtain⟨_,rfl⟩:=hs;constructor
  ·intro q
   obtain⟨m,n⟩:=(dK es key).1 q;exact⟨es,c,_,m,n⟩
  ·rintro⟨es',d,j,k,e⟩
   rw[c]at d;cases d;exact(jW l.a6 k e).1
 | h+1,f,w,P,b,lo,hi,p,hl,hh,h5,g,th,hs=>by
  unfold putAt at hs;cases a:stepDown f b key with
  | none=>rw[a]at hs;cases hs
  | some i=>
   obtain⟨y,x⟩:=i;rw[a]at hs;obtain⟨v,lo',hi',w1,u,o,r,s,A,B⟩:=w.stepDown p hl hh h5 a;rw[w.bS p hl h5 a];exact lJ w1 u o r s hs
theorem Wk.bd(w:Wk f t H){r:Nat}(a:shadow f (.root t)=some (g,r))(key:ByteArray)(h:Nat):Mem f.n h (aB f t) key↔Mem g.n h r key:=by
 obtain⟨w1,Q,J,u,K,M,N,O⟩:=w.ak a;unfold shadow at a;have z:bN f (.root t)=aB f t:=rfl;rw[z]at a;by_cases o:own f (aB f t)
 ·rw[if_pos o]at a;cases a;exact Iff.rfl
 ·rw[if_neg o]at a
  by_cases l:aG f=0
  ·rw[if_pos l]at a;cases a
  ·rw[if_neg l]at a
   simp only[sJ,Prod.mk.injEq]at a;obtain⟨C,G⟩:=a;obtain⟨A,B,p,_⟩:=aP l;obtain⟨d,n⟩:=w.ic.ao (aQ w.tl);have j:f.n (aB f t)=some d:=n;obtain⟨I,s,_⟩:=w.ic.shadow (L:=.root t) w.tl rfl n A B p;have v:f.n (aG f)=none:=(w.ic.bb.dead _).2 p;have q:g.n=if cu f (aB f t)=1 then upd (upd f.n (aG f) (some d)) (aB f t) none else upd f.n (aG f) (some d):=by rw[<-C];exact s
   let U:Nat->Prop:=fun x=>(∃d,f.n x=some d)/\(cu f (aB f t)=1->x≠aB f t)
   have D:∀x d,U x->f.n x=some d->∀c∈kids d,U c:=fun x d' _ i c b=>
    ⟨w.ic.af i b,fun k e=>(w.ic.aD (aQ w.tl) k).2 x d' i (by have:c=(f.r.getD t (0,0)).2.toNat:=e;rw[<-this];exact b)⟩
   have y:∀x,U x->g.n x=f.n x:=fun x ⟨⟨d',i⟩,k⟩=>by
    have m:x≠aG f:=fun e=>by rw[e,v]at i;cases i
    rw[q];split
    ·rename_i F;rw[aC _ _ (k F),aC _ _ m]
    ·rw[aC _ _ m]
   have E:g.n r=some d:=by rw[u];exact j
   rw[cA E,cA j];exact kS.iff fun c b P=>Mem.bl D y ⟨w.ic.af j b,fun _ e=>w.ic.ag j (e▸b)⟩
theorem Wk.cx(w:Wk f t H)(h1:cu f (aB f t)=1){k:Int}(hd:f.n (aB f t)=some (k,es)){q top:Nat}(O:2<=m)(P:m+2<=es.length)
  (J:2<=q) (M:q<f.c.length) (u:cu f q=0) (z:2<=top) (B:top<f.c.length) (v:cu f top=0) (y:top≠q) (key:ByteArray):
  let f':=growF f t (aB f t) k es m q top (ky es 0) (ky es m)
  Mem f.n H (aB f t) key↔Mem f'.n (H+1) top key:=by
 intro f';obtain⟨N,i⟩:=w.ic.grow (t:=t) (r:=aB f t) (m:=m) (ky es 0) (ky es m) w.tl rfl hd (by omega) (by omega) J M u z B v y;have n:f.n q=none:=(w.ic.bb.dead q).2 u;have l:f.n top=none:=(w.ic.bb.dead top).2 v;have C:aB f t≠q:=fun e=>by rw[e,n]at hd;cases hd
 have E:aB f t≠top:=fun e=>by rw[e,l]at hd;cases hd
 have I:=w.ic.aD (aQ w.tl) h1;have h:f'.n top=some (2,[(ky es 0,.empty,(aB f t:Int)),(ky es m,.empty,(q:Int))]):=by rw[i,aE]
 have nq:f'.n q=some (k,es.drop m):=by rw[i,aC _ _ (Ne.symm y),aE]
 have L:f'.n (aB f t)=some (k,es.take m):=by rw[i,aC _ _ E,aC _ _ C];exact aE _ _ _
 let U:Nat->Prop:=fun x=>(∃d,f.n x=some d)/\x≠aB f t
 have K:∀x d,U x->f.n x=some d->∀c∈kids d,U c:=fun x d' _ b c g=>
  ⟨w.ic.af b g,fun e=>I.2 x d' b (by have:c=(f.r.getD t (0,0)).2.toNat:=e;rw[<-this];exact g)⟩
 have F:∀x,U x->f'.n x=f.n x:=fun x ⟨⟨d',b⟩,h1⟩=>by
  have A:x≠q:=fun e=>by rw[e,n]at b;cases b
  have D:x≠top:=fun e=>by rw[e,l]at b;cases b
  rw[i,aC _ _ D,aC _ _ A];exact aC _ _ h1
 have G:∀c∈kids (k,es),∀j,Mem f.n j c key↔Mem f'.n j c key:=fun c g j=>
  Mem.bl K F ⟨w.ic.af hd g,fun e=>w.ic.ag hd (e▸g)⟩
 have o:ch (ky es 0,.empty,(aB f t:Int))=aB f t:=by simp[ch]
 have p:ch (ky es m,.empty,(q:Int))=q:=by simp[ch]
 rw[cA hd,kS.iff G,kS.cut m,<-cA L,<-cA nq,cA h];constructor
 ·rintro(a | a)
  ·exact⟨rfl,_,List.mem_cons_self,by rw[o];exact a⟩
  ·exact⟨rfl,_,List.mem_cons_of_mem _ List.mem_cons_self,by rw[p];exact a⟩
 ·rintro⟨_,e,s,a⟩
  simp only[List.mem_cons,List.not_mem_nil,or_false]at s;rcases s with rfl | rfl
  ·rw[o]at a;exact .inl a
  ·rw[p]at a;exact .inr a
theorem aGJ(w:Wk f t H){th:Bool}(a:put f t H key val=some (g,th)):th=true↔Mem f.n H (aB f t) key:=by
 unfold put at a;cases l:shadow f (.root t)with
 | none=>rw[l]at a;cases a
 | some gr=>
  obtain⟨c,r1⟩:=gr;rw[l]at a;simp only at a;obtain⟨w1,A,B,J,n,K,L,M⟩:=w.ak l;rw[w.bd l];obtain⟨⟨k,es⟩,h⟩:=w1.ic.live (x:=r1) (by rw[n];omega);have N:es.length<=5:=by
   obtain⟨d',d1,_,d2,_⟩:=((A.ok w1.ok).1).ba;rw[h]at d1;cases d1;exact d2
  rw[aF h]at a;simp only at a;by_cases d:es.length=5
  ·rw[if_pos d]at a
   cases b:bO c t r1 with
   | none=>rw[b]at a;cases a
   | some D=>
    obtain⟨Q,G⟩:=D;rw[b]at a;simp only at a;unfold bO at b;rw[aF h]at b;simp only at b;by_cases r:aG c=0
    ·rw[if_pos r]at b;cases b
    ·rw[if_neg r]at b
     generalize hT:aG (takeAt (setN c r1 (k,es.take 3)) (aG c) (k,es.drop 3))=s at *;by_cases o:s=0
     ·rw[if_pos o]at b;cases b
     ·rw[if_neg o]at b
      simp only[sJ,Prod.mk.injEq]at b;obtain⟨rfl,rfl⟩:=b;obtain⟨v,p,y,R⟩:=aP r;obtain⟨q,z,i,S⟩:=aP (hT▸o);rw[hT]at q z i;have F:∀x,cu (takeAt (setN c r1 (k,es.take 3)) (aG c) (k,es.drop 3)) x=if aG c=x then 1 else cu c x:=fun x=>dW (f:=setN c r1 (k,es.take 3)) (k,es.drop 3) p x;rw[F]at i;have u:s≠aG c:=fun e=>by rw[if_pos e.symm]at i;omega
      rw[if_neg (Ne.symm u)]at i;have j:s<c.c.length:=by simpa [takeAt,setN] using z
      subst B;obtain⟨I,E,O,P,C⟩:=w1.grow n h (m:=3) (by omega) (by omega) v p y q j i u;refine Iff.trans ?_ (w1.cx n h (m:=3) (by omega) (by omega) v p y q j i u key).symm;exact lJ I E trivial trivial (by unfold sz;rw[C];simp) a
  ·rw[if_neg d]at a
   exact lJ w1 A trivial trivial (by unfold sz;rw[h];simp only;omega) a
def eW(c:List Int)(k:Nat):List Int:=c.set k (c.getD k 0+1)
def lS(K:Nat->List Nat):Nat->Nat->List Int->List Int
 | 0,_,c=>c
 | h+1,b,c=>(K b).foldl (fun c k=>if(eW c k).getD k 0=1 then lS K h k (eW c k)else eW c k) c
def vis(K:Nat->List Nat)(h:Nat)(c:List Int)(k:Nat):List Int:=if(eW c k).getD k 0=1 then lS K h k (eW c k)else eW c k
theorem nG(K:Nat->List Nat)(h b:Nat)(c:List Int):lS K (h+1) b c=(K b).foldl (vis K h) c:=rfl
theorem gM(c:List Int)(k:Nat):(eW c k).length=c.length:=by simp[eW]
theorem iR(c:List Int)(k x:Nat)(a:k<c.length):(eW c k).getD x 0=c.getD x 0+(one k x:Int):=by
 unfold eW;rw[dI];by_cases e:k=x
 ·subst e;rw[if_pos ⟨rfl,a⟩,bV];rfl
 ·rw[if_neg (fun q=>e q.1),fA e];simp
def qO(nodes:Nat->Option Nd)(n:Nat)(e:Nat->Bool)(x:Nat):Nat:=cX n fun y=>if e y then(cF (nodes y)).count x else 0
theorem rS{e:Nat->Bool}(c:k<n)(hd:nodes k=some d)(he:e k=false)(x:Nat):qO nodes n (fun y=>e y || y == k) x=qO nodes n e x+(kids d).count x:=by
 have:=mE (n:=n) (g:=fun y=>if e y then(cF (nodes y)).count x else 0) (g':=fun y=>if(e y || y == k)=true then(cF (nodes y)).count x else 0) c (fun y f=>by
  have:(y == k)=false:=by simp[f]
  simp[this])
 have a:(if e k=true then(cF (nodes k)).count x else 0)=0:=by rw[he];rfl
 have b:(if(e k || k == k)=true then(cF (nodes k)).count x else 0)=(kids d).count x:=by rw[hd];simp[cF]
 have t:qO nodes n (fun y=>e y || y == k) x+(if e k=true then(cF (nodes k)).count x else 0)=qO nodes n e x+(if(e k || k == k)=true then(cF (nodes k)).count x else 0):=this;rw[a,b]at t;exact t
structure J(f:fZ)(s:Nat->Nat)(c:List Int)(e:Nat->Bool)(P:List Nat):Prop where
 len:c.length=f.c.length
 eq:∀x,x<f.c.length->c.getD x 0+(P.count x:Int)=((s x+qO f.n f.c.length e x:Nat):Int)
 pos:∀x,0<=c.getD x 0
 vis:∀x,x<f.c.length->(e x=true↔1<=c.getD x 0)
 live:∀x,e x=true->∃d,f.n x=some d
theorem aOS(h:IC f)(B:Hts f.n ht)(D:∀b d,f.n b=some d->K b=kids d){s:Nat->Nat}:
  ∀(m:Nat) (l P:List Nat) (c:List Int) (e:Nat->Bool),(∀k∈l,(∃d,f.n k=some d)/\ht k=m)->J f s c e (l++P)->∃e',J f s (l.foldl (vis K m) c) e' P:=by
 intro m;induction m with
 | zero=>
  intro l;induction l with
  | nil=>intro P c e o a;exact⟨e,a⟩
  | cons k l ih=>
   intro P c e o a;obtain⟨⟨d,n⟩,F⟩:=o k List.mem_cons_self;have p:=h.lt n;have A:k<c.length:=by rw[a.len];exact p
   have G:kids d=[]:=by
    refine List.eq_nil_iff_forall_not_mem.2 fun y j=>?_;rcases B k d n with⟨q,_⟩ | ⟨_,q⟩
    ·simp[kids,q]at j
    ·have:=q y j;omega
   have i:=fun x=>iR c k x A;have r:∀x,((k :: l++P).count x:Nat)=(l++P).count x+one k x:=fun x=>by simp only[List.cons_append,List.count_cons,beq_iff_eq,one]
   rw[List.foldl_cons];refine ih P _ (if c.getD k 0=0 then(fun y=>e y || y == k)else e) (fun y j=>o y (List.mem_cons_of_mem _ j)) ?_;have u:vis K 0 c k=eW c k:=by unfold vis lS;split<;>rfl
   rw[u];by_cases v:c.getD k 0=0
   ·rw[if_pos v]
    have w:e k=false:=by
     cases q:e k with
     | false=>rfl
     | true=>have:=(a.vis k p).1 q;omega
    refine⟨by rw[gM];exact a.len,fun x g=>?_,fun x=>?_,fun x g=>?_,fun x g=>?_⟩
    ·have:=a.eq x g
     rw[r]at this;rw[i,rS p n w,G,List.count_nil];omega
    ·rw[i];have:=a.pos x;omega
    ·rw[i]
     by_cases q:x=k
     ·subst q;rw[bV];have E:=a.pos x;exact⟨fun _=>by omega,fun _=>by simp⟩
     ·have:(x == k)=false:=by simp[q]
      rw[this,Bool.or_false,fA (Ne.symm q)];have:=a.vis x g;simpa using this
    ·simp only[Bool.or_eq_true,beq_iff_eq]at g
     rcases g with g | g
     ·exact a.live x g
     ·subst g;exact⟨d,n⟩
   ·rw[if_neg v]
    refine⟨by rw[gM];exact a.len,fun x g=>?_,fun x=>?_,fun x g=>?_,a.live⟩
    ·have:=a.eq x g
     rw[r]at this;rw[i];omega
    ·rw[i];have:=a.pos x;omega
    ·rw[i]
     have t:=a.vis x g;by_cases q:k=x
     ·subst q;rw[bV]
      have:=a.pos k
      constructor
      ·intro _;omega
      ·intro _;exact t.2 (by omega)
     ·rw[fA q];simpa using t
 | succ m z=>
  intro l;induction l with
  | nil=>intro P c e o a;exact⟨e,a⟩
  | cons k l ih=>
   intro P c e o a;obtain⟨⟨d,n⟩,F⟩:=o k List.mem_cons_self;have p:=h.lt n;have A:k<c.length:=by rw[a.len];exact p
   have i:=fun x=>iR c k x A;have r:∀x,((k :: l++P).count x:Nat)=(l++P).count x+one k x:=fun x=>by simp only[List.cons_append,List.count_cons,beq_iff_eq,one]
   rw[List.foldl_cons];by_cases v:c.getD k 0=0
   ·have w:e k=false:=by
     cases q:e k with
     | false=>rfl
     | true=>have:=(a.vis k p).1 q;omega
    have u:vis K (m+1) c k=(kids d).foldl (vis K m) (eW c k):=by
     unfold vis;rw[if_pos (by rw[i,bV,v];rfl),nG,D k d n];rfl
    obtain⟨C,H⟩:=z (kids d) (l++P) (eW c k) (fun y=>e y || y == k) (fun y j=>⟨h.af n j,by
     rcases B k d n with⟨q,_⟩ | ⟨_,q⟩
     ·simp[kids,q]at j
     ·have:=q y j;omega⟩) (by
     refine⟨by rw[gM];exact a.len,fun x g=>?_,fun x=>?_,fun x g=>?_,fun x g=>?_⟩
     ·have:=a.eq x g
      rw[r]at this;rw[i,rS p n w,List.count_append];omega
     ·rw[i];have:=a.pos x;omega
     ·rw[i]
      by_cases q:x=k
      ·subst q;rw[bV];have E:=a.pos x;exact⟨fun _=>by omega,fun _=>by simp⟩
      ·have:(x == k)=false:=by simp[q]
       rw[this,Bool.or_false,fA (Ne.symm q)];have:=a.vis x g;simpa using this
     ·simp only[Bool.or_eq_true,beq_iff_eq]at g
      rcases g with g | g
      ·exact a.live x g
      ·subst g;exact⟨d,n⟩)
    rw[u];exact ih P _ C (fun y j=>o y (List.mem_cons_of_mem _ j)) H
   ·have u:vis K (m+1) c k=eW c k:=by
     unfold vis;rw[if_neg (by rw[i,bV];omega)]
    rw[u];refine ih P _ e (fun y j=>o y (List.mem_cons_of_mem _ j)) ⟨by rw[gM];exact a.len,fun x g=>?_,fun x=>?_,fun x g=>?_,a.live⟩
    ·have:=a.eq x g
     rw[r]at this;rw[i];omega
    ·rw[i];have:=a.pos x;omega
    ·rw[i]
     have t:=a.vis x g;by_cases q:k=x
     ·subst q;rw[bV]
      have:=a.pos k
      constructor
      ·intro _;omega
      ·intro _;exact t.2 (by omega)
     ·rw[fA q];simpa using t
def aPB(K:Nat->List Nat)(ht:Nat->Nat)(rs:List Nat)(n:Nat):List Int:=rs.foldl (fun c r=>vis K (ht r) c r) (List.replicate n 0)
theorem vG(a:Nat->Option Nd)(n x:Nat):qO a n (fun _=>false) x=0:=by
 unfold qO;induction n with
 | zero=>rfl
 | succ n ih=>simp only[cX];rw[ih];simp
theorem aOB(ht:Nat->Nat)(n:Nat):∃M,∀x,x<n->ht x<=M:=by
 induction n with
 | zero=>exact⟨0,fun x b=>by omega⟩
 | succ n ih=>
  obtain⟨M,a⟩:=ih;refine⟨max M (ht n),fun x b=>?_⟩;by_cases e:x=n
  ·subst e;omega
  ·have:=a x (by omega);omega
theorem aDO(h:IC f)(B:Hts f.n ht)(I:∀b d,f.n b=some d->K b=kids d):aPB K ht (f.r.map fun r=>r.2.toNat) f.c.length=f.c:=by
 have G:∀(rs:List Nat) (c:List Int) (e:Nat->Bool),(∀r∈rs,∃d,f.n r=some d)->J f (rc f.r) c e rs->∃e',J f (rc f.r) (rs.foldl (fun c r=>vis K (ht r) c r) c) e' []:=by
  intro rs;induction rs with
  | nil=>intro c e _ j;exact⟨e,j⟩
  | cons r rs ih=>
   intro c e m j;obtain⟨F,P⟩:=aOS h B I (ht r) [r] rs c e (fun k u=>by
    simp only[List.mem_cons,List.not_mem_nil,or_false]at u;subst u;exact⟨m k List.mem_cons_self,rfl⟩) j
   exact ih _ F (fun y n=>m y (List.mem_cons_of_mem _ n)) P
 obtain⟨e,j⟩:=G (f.r.map fun r=>r.2.toNat) (List.replicate f.c.length 0) (fun _=>false) (fun r m=>by
  obtain⟨q,N,rfl⟩:=List.mem_map.1 m;exact h.ao N) ⟨by simp,fun x a=>by
   rw[vG];have:(List.replicate f.c.length (0:Int)).getD x 0=0:=by simp[gD,a]
   rw[this];unfold rc;omega,fun x=>by
   by_cases a:x<f.c.length
   ·simp[gD,a]
   ·simp[gD,a],fun x a=>by simp[gD,a],fun x a=>by simp at a⟩
 show(f.r.map fun r=>r.2.toNat).foldl _ _=_
 generalize (f.r.map fun r=>r.2.toNat).foldl (fun c r=>vis K (ht r) c r) (List.replicate f.c.length 0)=c at j |-;obtain⟨M,L⟩:=aOB ht f.c.length;have s:∀k x d,f.n x=some d->M-ht x=k->e x=true:=by
  intro k;induction k using Nat.strongRecOn with
  | ind k ih=>
   intro x d A u;have a:=h.lt A;refine(j.vis x a).2 ?_;have o:=j.eq x a;simp only[List.count_nil]at o;have H:=h.names a;have p:=h.a7 A;by_cases m:0<rc f.r x
   ·omega
   ·have C:0<deg f.n f.c.length x:=by omega
    obtain⟨y,n,l⟩:=jQ C;cases i:f.n y with
    | none=>rw[i]at l;simp[cF]at l
    | some t=>
     rw[i]at l;have w:x∈kids t:=List.count_pos_iff.1 l;have Q:ht x+1=ht y:=by
      rcases B y t i with⟨q,_⟩ | ⟨_,q⟩
      ·simp[kids,q]at w
      ·exact q x w
     have O:=L y n;have E:=ih (M-ht y) (by omega) y t i rfl;have v:=oX (g:=fun z=>if e z then(cF (f.n z)).count x else 0) n;simp only[E,if_true]at v;rw[i]at v;have:0<qO f.n f.c.length e x:=lL l v;omega
 have D:∀x,qO f.n f.c.length e x=deg f.n f.c.length x:=fun x=>by
  unfold qO deg;refine qK fun y n=>?_;cases i:f.n y with
  | none=>simp[cF]
  | some d=>rw[s _ y d i rfl];rfl
 refine List.ext_getElem? fun x=>?_;by_cases a:x<f.c.length
 ·have o:=j.eq x a
  simp only[List.count_nil]at o;rw[D]at o;have H:=h.names a;have p:c.getD x 0=cu f x:=by omega
  unfold cu at p;rw[gD,gD,gE (by rw[j.len];exact a),gE a]at p;rw[gE (by rw[j.len];exact a),gE a];simpa using p
 ·rw[List.getElem?_eq_none (by rw[j.len];omega),List.getElem?_eq_none (by omega)]
abbrev aS:=Nat×Int×Option Nd
abbrev jr0:aS:=(0,0,none)
def Tch(b:Nat)(J:List aS):Prop:=∃r∈J,r.1=b
def fst(J:List aS)(b:Nat):Option aS:=J.find? fun r=>r.1 == b
theorem aIX{J:List aS}:fst J b=none↔¬Tch b J:=by
 unfold fst Tch;rw[List.find?_eq_none];constructor
 ·rintro h ⟨r,a,e⟩;exact h r a (by simp[e])
 ·intro h r a e;exact h ⟨r,a,by simpa using e⟩
theorem aDU(J K:List aS)(b:Nat):fst (J++K) b=(fst J b).or (fst K b):=by
 unfold fst;rw[List.find?_append]
structure JI(f0 f:fZ)(J:List aS):Prop where
 next:f.next=f0.next
 gen:f.gen=f0.gen
 m:f.m=f0.m
 table:f.table=f0.table
 len:f.c.length=f0.c.length
 lt:∀r∈J,r.1<f0.c.length
 old:∀b r,fst J b=some r->r.2=(cu f0 b,f0.n b)
 new:∀b,fst J b=none->cu f b=cu f0 b/\f.n b=f0.n b
theorem JI.start(f:fZ):JI f f []:=⟨rfl,rfl,rfl,rfl,rfl,fun _ h=>(by simp at h),fun b r h=>(by simp[fst]at h),fun _ _=>⟨rfl,rfl⟩⟩
theorem JI.save{J:List aS}(h:JI f0 f J)(j:b<f.c.length):JI f0 f (J++[(b,cu f b,f.n b)]):=by
 refine⟨h.next,h.gen,h.m,h.table,h.len,fun r a=>?_,fun x r a=>?_,fun x c=>?_⟩
 ·rcases List.mem_append.1 a with a | a
  ·exact h.lt r a
  ·simp only[List.mem_singleton]at a;subst a;rw[<-h.len];exact j
 ·rw[aDU]at a
  cases e:fst J x with
  | some k=>rw[e]at a;simp only[Option.some_or,sJ]at a;subst a;exact h.old x _ e
  | none=>
   rw[e]at a;simp only[Option.none_or,fst,List.find?_cons,List.find?_nil]at a;split at a
   ·rename_i d
    simp only[beq_iff_eq]at d;simp only[sJ]at a;subst a;subst d;obtain⟨g,i⟩:=h.new b e;rw[g,i]
   ·cases a
 ·rw[aDU]at c
  cases e:fst J x with
  | some k=>rw[e]at c;simp at c
  | none=>exact h.new x e
theorem JI.dn{J:List aS}(h:JI f0 f J)(hn:f'.next=f.next)(i:f'.gen=f.gen)(hc:f'.m=f.m)(ht:f'.table=f.table)(j:f'.c.length=f.c.length)
  (hx:∀x,¬Tch x J->cu f' x=cu f x/\f'.n x=f.n x):JI f0 f' J:=
 ⟨hn.trans h.next,i.trans h.gen,hc.trans h.m,ht.trans h.table,j.trans h.len,h.lt,h.old,fun b a=>by
  obtain⟨c,d⟩:=h.new b a;obtain⟨e,g⟩:=hx b (aIX.1 a);exact⟨e.trans c,g.trans d⟩⟩
structure JS(k:Nat)(f:fZ)(J:List aS)(f':fZ)(J':List aS):Prop where
 ji:∀f0,JI f0 f J->JI f0 f' J'
 b5:∀b,Tch b J->Tch b J'
 len:J'.length<=J.length+k
theorem JS.refl(f:fZ)(J:List aS):JS 0 f J f J:=⟨fun _ h=>h,fun _ h=>h,nR _⟩
theorem JS.trans{i:fZ}{J K L:List aS}(a:JS k f J g K)(b:JS l g K i L):JS (k+l) f J i L:=
 ⟨fun c h=>b.ji c (a.ji c h),fun x h=>b.b5 x (a.b5 x h),by have:=a.len;have:=b.len;omega⟩
theorem JS.up{J K:List aS}(a:JS k f J g K)(h:k<=l):JS l f J g K:=⟨a.ji,a.b5,by have:=a.len;omega⟩
theorem JS.save{J:List aS}(a:b<f.c.length):JS 1 f J f (J++[(b,cu f b,f.n b)]):=
 ⟨fun d h=>h.save a,fun x ⟨r,c,e⟩=>⟨r,List.mem_append_left _ c,e⟩,by simp⟩
theorem Tch.saved{J:List aS}{c:Int}{d:Option Nd}:Tch b (J++[(b,c,d)]):=⟨_,List.mem_append_right _ (List.mem_singleton.2 rfl),rfl⟩
theorem JS.dn{J:List aS}(hn:f'.next=f.next)(a:f'.gen=f.gen)(hc:f'.m=f.m)(ht:f'.table=f.table)(b:f'.c.length=f.c.length)
  (hx:∀x,¬Tch x J->cu f' x=cu f x/\f'.n x=f.n x):JS 0 f J f' J:=⟨fun c h=>h.dn hn a hc ht b hx,fun _ h=>h,nR _⟩
theorem JS.setN{J:List aS}(d:Nd)(h:Tch b J):JS 0 f J (setN f b d) J:=
 JS.dn rfl rfl rfl rfl rfl fun x a=>⟨rfl,aC _ _ fun e=>a (e▸h)⟩
theorem jL(f:fZ){x:Nat}(v:Int)(h:x≠b):(f.c.set b v).getD x 0=cu f x:=by
 unfold cu;rw[gD,gD,List.getElem?_set,if_neg (Ne.symm h)]
theorem JS.takeAt{J:List aS}(d:Nd)(h:Tch b J):JS 0 f J (takeAt f b d) J:=
 JS.dn rfl rfl rfl rfl (by simp[Fo.takeAt]) fun x a=>⟨jL f _ fun e=>a (e▸h),aC _ _ fun e=>a (e▸h)⟩
theorem JS.freeB{J:List aS}(h:Tch b J):JS 0 f J (freeB f b) J:=
 JS.dn rfl rfl rfl rfl (by simp[Fo.freeB]) fun x a=>⟨jL f _ fun e=>a (e▸h),aC _ _ fun e=>a (e▸h)⟩
def setC(f:fZ)(b:Nat)(v:Int):fZ:={f with c:=f.c.set b v}
theorem JS.setC{J:List aS}(v:Int)(h:Tch b J):JS 0 f J (setC f b v) J:=
 JS.dn rfl rfl rfl rfl (by simp[Fo.setC]) fun x a=>⟨jL f _ fun e=>a (e▸h),rfl⟩
theorem JS.r{J:List aS}(r:List (Int×Int)):JS 0 f J {f with r:=r} J:=JS.dn rfl rfl rfl rfl rfl fun x a=>⟨rfl,rfl⟩
theorem JS.setL{J:List aS}(L:Loc)(q:Nat)(h:∀b i,L=.ai b i->Tch b J):JS 0 f J (setL f L q) J:=by
 cases L with
 | inl t=>exact JS.r _
 | inr a=>obtain⟨b,i⟩:=a;exact JS.setN _ (h b i rfl)
def aNB(f:fZ)(r:aS):fZ:={f with c:=f.c.set r.1 r.2.1,n:=upd f.n r.1 r.2.2}
def eF(f:fZ)(J:List aS):fZ:=J.foldr (fun r g=>aNB g r) f
theorem pE(f:fZ)(J:List aS):(eF f J).next=f.next/\(eF f J).gen=f.gen/\(eF f J).m=f.m/\(eF f J).table=f.table/\(eF f J).r=f.r/\(eF f J).c.length=f.c.length:=by
 induction J with
 | nil=>exact⟨rfl,rfl,rfl,rfl,rfl,rfl⟩
 | cons r J ih=>obtain⟨a,b,c,d,e,g⟩:=ih;exact⟨a,b,c,d,e,by show((eF f J).c.set _ _).length=_;rw[List.length_set,g]⟩
theorem aDJ(f:fZ):∀(J:List aS) (hl:∀r∈J,r.1<f.c.length) (b:Nat),(∀r,fst J b=some r->cu (eF f J) b=r.2.1/\(eF f J).n b=r.2.2)/\(fst J b=none->cu (eF f J) b=cu f b/\(eF f J).n b=f.n b)
 | [],_,b=>⟨fun r h=>by simp[fst]at h,fun _=>⟨rfl,rfl⟩⟩
 | r :: J,hl,b=>by
  obtain⟨i,j⟩:=aDJ f J (fun x a=>hl x (List.mem_cons_of_mem _ a)) b;have g:r.1 <(eF f J).c.length:=by rw[(pE f J).2.2.2.2.2];exact hl r List.mem_cons_self
  have k:cu (eF f (r :: J)) b=if r.1=b then r.2.1 else cu (eF f J) b:=fL (eF f J) r.1 b r.2.1 g;have c:(eF f (r :: J)).n b=if b=r.1 then r.2.2 else(eF f J).n b:=rfl;have d:fst (r :: J) b=if r.1=b then some r else fst J b:=by
   unfold fst;rw[List.find?_cons];by_cases e:r.1=b
   ·simp[e]
   ·have:(r.1 == b)=false:=by simpa using e
    simp[this,e]
  rw[k,c,d];by_cases e:r.1=b
  ·rw[if_pos e,if_pos e,if_pos e.symm]
   exact⟨fun x a=>by cases a;exact⟨rfl,rfl⟩,fun h=>by cases h⟩
  ·rw[if_neg e,if_neg e,if_neg (fun q=>e q.symm)]
   exact⟨i,j⟩
theorem JI.c4{J:List aS}(h:JI f0 f J):{eF f J with r:=f0.r}=f0:=by
 obtain⟨r1,r2,r3,r4,v,t⟩:=pE f J;have d:=aDJ f J (fun r s=>by rw[h.len];exact h.lt r s);have key:∀b,cu (eF f J) b=cu f0 b/\(eF f J).n b=f0.n b:=fun b=>by
  cases e:fst J b with
  | some r=>
   obtain⟨a,c⟩:=(d b).1 r e;have:=h.old b r e;rw[this]at a c;exact⟨a,c⟩
  | none=>
   obtain⟨a,c⟩:=(d b).2 e;obtain⟨o,p⟩:=h.new b e;exact⟨a.trans o,c.trans p⟩
 have g:(eF f J).c=f0.c:=by
  refine List.ext_getElem? fun i=>?_;have u:(eF f J).c.length=f0.c.length:=t.trans h.len;have:=(key i).1;unfold cu at this;rw[gD,gD]at this;by_cases q:i<f0.c.length
  ·rw[gE (by omega),gE q]at this |-
   simpa using this
  ·rw[List.getElem?_eq_none (by omega),List.getElem?_eq_none (by omega)]
 have j:(eF f J).n=f0.n:=funext fun b=>(key b).2;have k:=r1.trans h.next;have l:=r2.trans h.gen;have m:=r3.trans h.m;have n:=r4.trans h.table;cases f0;simp only at *;simp only[g,j,k,l,m,n]
theorem few:∀(n:Nat) (l:List Nat),l.Nodup->(∀x∈l,x<n)->l.length<=n
 | 0,l,_,h=>by
  cases l with
  | nil=>simp
  | cons a l=>exact absurd (h a List.mem_cons_self) (by omega)
 | n+1,l,d,h=>by
  have k:=few n (l.filter fun x=>x != n) (d.filter _) (fun x b=>by
   have:=List.mem_filter.1 b
   have i:=h x this.1;have c:x≠n:=by simpa using this.2
   omega)
  have i:l.length<=(l.filter fun x=>x != n).length+1:=by
   have c:∀m:List Nat,m.Nodup->m.length<=(m.filter fun x=>x != n).length+1:=fun m j=>by
    induction m with
    | nil=>simp
    | cons a m ih=>
     have f:=List.nodup_cons.1 j;have:=ih f.2;by_cases e:a=n
     ·subst e
      have g:m.filter (fun x=>x != a)=m:=List.filter_eq_self.2 fun x b=>by simp;exact fun q=>f.1 (q▸b)
      simp[g]
     ·have:(a != n)=true:=by simpa using e
      simp only[List.filter_cons,this,if_true,List.length_cons];omega
   exact c l d
  omega
theorem aBR(w:Wk f t H)(p:aO f t H P b (h+1) lo hi)(h3:P≠[]->3<=sz f.n b)(hr:cJ f t H)(v:Mem f.n (h+1) b key){g1:fZ}(j:stepDel f b key=some (g1,c)):
  (∃es,g1.n b=some (2,es)/\es.length≠1/\delAt (h+1) f t b key=delAt h g1 t c key/\Wk g1 t H/\(∃P' lo' hi',aO g1 t H P' c h lo' hi')/\3<=sz g1.n c/\cJ g1 t H/\Mem g1.n h c key) \/
  (∃e,g1.n b=some (2,[e])/\ch e=c/\b=aB g1 t/\t<g1.r.length/\IC g1/\delAt (h+1) f t b key=delAt h (fallF g1 t (aB g1 t) c) t c key/\∃H',Wk (fallF g1 t (aB g1 t) c) t H'/\aO (fallF g1 t (aB g1 t) c) t H' [] c h none none/\cJ (fallF g1 t (aB g1 t) c) t H'/\Mem (fallF g1 t (aB g1 t) c).n h c key):=by
 have st:=w.stepDel p hr h3 v j;obtain⟨lo',hi',k⟩:=st.path;have d:delAt (h+1) f t b key=if(look g1 b).2.length=1 then delAt h (fallF g1 t (aB g1 t) (kd (look g1 b).2 0)) t c key else delAt h g1 t c key:=by
  conv=>lhs;unfold delAt
  rw[j]
 rcases st.many with⟨es,a,g⟩ | ⟨u,e,a,g⟩
 ·have s:cJ g1 t H:=by
   rcases st.rt hr with q | ⟨_,e,q,_⟩
   ·exact q
   ·rw[a]at q;cases q;simp at g
  refine .inl ⟨es,a,by omega,?_,st.wk,⟨_,_,_,k⟩,st.spare,s,st.mem⟩;rw[d,aF a];exact if_neg (by simp only;omega)
 ·rw[aF a]at d
  rw[if_pos (show([e]:List E3).length=1 from rfl)]at d;have y:kd [e] 0=ch e:=rfl;rw[y]at d;subst u;rcases st.up.top with⟨_,q,z⟩ | ⟨q,_⟩
  ·subst z
   have i:=a;rw[q]at a;have r:cu g1 (aB g1 t)=1:=by have:=(st.up.named st.wk.ic st.wk.tl b List.mem_cons_self).1;rw[q]at this;exact this
   have x:cu g1 (ch e)=1:=by rw[g];exact(k.named st.wk.ic st.wk.tl c List.mem_cons_self).1
   obtain⟨l,m,A,n,B,o⟩:=st.wk.cn a r x;rw[g]at l m A n B o d;exact .inr ⟨e,i,g,q,st.wk.tl,st.wk.ic,d,_,l,m,n,o key st.mem⟩
  ·cases q
theorem aJP(a:Nat->Option Nd)(n:Nat):fO a n<=n:=by
 unfold fO;induction n with
 | zero=>exact nR _
 | succ n ih=>simp only[cX];split<;>omega
structure UC(h:Nat)(f:fZ)(b:Nat):Prop where
 ex:∃(g:fZ) (S:Nat->Prop) (ht E:Nat->Nat),Ab f g S/\IP g ht/\(∀x,x<g.c.length->df g x=((E x:Nat):Int))/\b<g.c.length/\1<=E b/\ht b=h
theorem UC.live(u:UC h f b):∃d,f.n b=some d/\b<f.c.length/\1<=cu f b/\kO f.c.length d/\(h=0->kids d=[]):=by
 obtain⟨g,S,ht,E,a,i,j,e,m,r⟩:=u;obtain⟨d,l,s,o,-⟩:=kH (h:=h) a i j e m;refine⟨d,o,by rw[a.c];exact e,?_,by rw[a.c];exact i.kb b d l,fun p=>?_⟩
 ·rw[nP a]
  have n:=j b e;unfold df at n;omega
 ·refine List.eq_nil_iff_forall_not_mem.2 fun c k=>?_
  rcases i.ht b d l with⟨q,_⟩ | ⟨_,q⟩
  ·simp[kids,q]at k
  ·have:=q c k;omega
theorem UC.next(u:UC (h+1) f b)(hd:f.n b=some d)(hc:¬0<cu f b-1):(∀pre x post,kids d=pre++x :: post->UC h (unL h pre (dec f b,1)).1 x)/\∀pre post,kids d=pre++post->1<=(unL h pre (dec f b,1)).2/\(unL h pre (dec f b,1)).2<=600:=by
 obtain⟨g,S,ht,E,k,j,w,y,o,N⟩:=u;obtain⟨d',m,O,A,-⟩:=kH (h:=h+1) k j w y o;rw[hd]at A;cases A;rw[nP k b]at hc;obtain⟨F,G,H,K⟩:=lR k j w y o m hc;have l:(freeB g b).c.length=g.c.length:=by simp[freeB]
 have C:∀x,x <(freeB g b).c.length->df (freeB g b) x=(((E x-one b x)+(kids d).count x:Nat):Int):=fun x z=>H x (by rw[l]at z;exact z);have B:∀c∈kids d,c <(freeB g b).c.length/\ht c=h:=fun c i=>⟨by rw[l];exact(j.kb b d m).dx i,by
  rcases j.ht b d m with⟨q,_⟩ | ⟨_,q⟩
  ·simp[kids,q]at i
  ·have:=q c i;omega⟩
 have key:∀pre post,kids d=pre++post->Un h (dec f b) (freeB g b) (fun x=>S x\/x=b) ht pre (fun x=>(E x-one b x)+(kids d).count x) (unL h pre (dec f b,1)) 1:=fun pre post e=>
  (aDA (fun a b c d e f=>wE a b c d e f) pre (E:=fun x=>(E x-one b x)+(kids d).count x) 1 F G C (fun c i=>B c (by rw[e];exact List.mem_append_left _ i)) (fun x=>by rw[e,List.count_append];omega)).2
 refine⟨fun pre x post e=>?_,fun pre post e=>?_⟩
 ·obtain⟨g',p,r,s,t,v,D,-⟩:=key pre (x :: post) e
  obtain⟨I,J⟩:=B x (by rw[e];simp);refine⟨g',_,ht,_,p,r,s,by rw[t];exact I,?_,J⟩;rw[e,List.count_append,List.count_cons_self];omega
 ·obtain⟨g',p,r,s,t,v,D,-⟩:=key pre post e
  have L:=aJP (freeB g b).n (freeB g b).c.length;have M:fO g'.n (freeB g b).c.length<=fO (freeB g b).n (freeB g b).c.length:=by
   unfold fO;have:∀n,cX n (fun x=>if(g'.n x).isSome then 1 else 0)<=cX n (fun x=>if((freeB g b).n x).isSome then 1 else 0):=fun n=>by
    induction n with
    | zero=>exact nR _
    | succ n ih=>
     simp only[cX];rcases v n with q | q
     ·rw[q];omega
     ·rw[q];simp only[Option.isSome_none];split<;>simp_all<;>omega
   exact this _
  have:=j.al
  rw[l]at *;omega
structure UK(f g:fZ):Prop where
 len:g.c.length=f.c.length
 m:g.m=f.m
 cu:∀x,Fo.cu g x<=Fo.cu f x
 n:∀x,g.n x=f.n x\/g.n x=none
theorem UK.refl(f:fZ):UK f f:=⟨rfl,rfl,fun _=>Int.le_refl _,fun _=>.inl rfl⟩
theorem UK.trans{k:fZ}(a:UK f g)(b:UK g k):UK f k:=⟨b.len.trans a.len,b.m.trans a.m,fun x=>Int.le_trans (b.cu x) (a.cu x),fun x=>by
 rcases b.n x with q | q
 ·rw[q];exact a.n x
 ·exact .inr q⟩
theorem UK.dec(f:fZ)(b:Nat):UK f (dec f b):=⟨by simp[Fo.dec],rfl,fun x=>by
 show(f.c.set b _).getD x 0<=f.c.getD x 0
 rw[gD,gD,List.getElem?_set];split
 ·rename_i e;subst e
  split
  ·simp only[Option.getD_some];unfold Fo.cu;rw[gD];omega
  ·rename_i a;rw[List.getElem?_eq_none (by omega)];simp
 ·exact Int.le_refl _,fun _=>.inl rfl⟩
theorem UK.delN(f:fZ)(b:Nat):UK f (delN f b):=⟨rfl,rfl,fun _=>Int.le_refl _,fun x=>by
 by_cases e:x=b
 ·exact .inr (by show upd _ _ _ _=_;rw[e,aE])
 ·exact .inl (aC _ _ e)⟩
theorem UK.unname:∀(h:Nat) (f:fZ) (b:Nat),UK f (Fo.unname h f b).1
 | 0,f,b=>by
  unfold Fo.unname;split
  ·exact UK.dec f b
  ·exact(UK.dec f b).trans (UK.delN _ b)
 | h+1,f,b=>by
  unfold Fo.unname;split
  ·exact UK.dec f b
  ·refine UK.trans ?_ (UK.delN _ b)
   have:∀(l:List Nat) (a:fZ×Int),UK a.1 (unL h l a).1:=fun l=>by
    induction l with
    | nil=>intro a;exact UK.refl _
    | cons k l ih=>intro a;rw[lQ];exact(UK.unname h a.1 k).trans (ih ((Fo.unname h a.1 k).1,a.2+(Fo.unname h a.1 k).2))
   exact(UK.dec f b).trans (this _ (Fo.dec f b,1))
theorem UK.unL(h:Nat):∀(l:List Nat) (a:fZ×Int),UK a.1 (Fo.unL h l a).1
 | [],a=>UK.refl _
 | k :: l,a=>by rw[lQ];exact(UK.unname h a.1 k).trans (UK.unL h l ((Fo.unname h a.1 k).1,a.2+(Fo.unname h a.1 k).2))
theorem aKU(h:Nat)(l:List Nat)(k:Nat)(a:fZ×Int):unL h (l++[k]) a=((unname h (unL h l a).1 k).1,(unL h l a).2+(unname h (unL h l a).1 k).2):=by
 unfold unL;rw[List.foldl_append];rfl
theorem aLU(h:Inv f)(ht:t<f.r.length)(o:Ok f.n H (aB f t) none none):UC H (fU f t) (aB f t):=by
 obtain⟨c,a⟩:=h.ic.ip;have s:∀r∈delE f.r t,r∈f.r:=fun r b=>oP b;have g:IP (fU f t) c:=⟨a.n8,a.al,a.len,⟨a.bb.dead,a.bb.pos⟩,a.two,fun r b=>a.rb r (s r b),a.kb,a.ht⟩;obtain⟨d,n⟩:=h.ic.ao (aQ ht);have l:aB f t<f.c.length:=h.ic.lt (show f.n (aB f t)=some d from n);have k:∀x,x <(fU f t).c.length->df (fU f t) x=(one (aB f t) x:Int):=fun x p=>by
  have j:=h.ic.D0 x p;have m:=fV (f.r.map fun r=>r.2.toNat) t x (by simpa using ht);have i:(f.r.map fun r=>r.2.toNat).getD t 0=aB f t:=by simp[aB,gD,ht]
  rw[i]at m;have e:rc (fU f t).r x=(delE (f.r.map fun r=>r.2.toNat) t).count x:=by
   unfold rc fU;congr 1;simp[delE,List.map_take,List.map_drop]
  unfold df at j |-;rw[e];show cu f x -((_+deg f.n f.c.length x:Nat):Int)=_
  have:rc f.r x=(f.r.map fun r=>r.2.toNat).count x:=rfl
  omega
 exact⟨fU f t,fun _=>False,c,one (aB f t),⟨rfl,rfl,fun _ _=>rfl,fun _ q=>q.elim,rfl,rfl,rfl,rfl⟩,g,k,l,by rw[bV];exact nR _,nY a.ht o⟩
theorem aAI(h:Inv f)(ht:t<f.r.length)(b:i<f.r.length)(a:i≠t):f.r.getD i (0,0)≠f.r.getD t (0,0):=fun e=>by
 have c:rid f i=rid f t:=by unfold rid;rw[e]
 rcases Nat.lt_or_gt_of_ne a with q | q
 ·have:=h.ids i t q ht;omega
 ·have:=h.ids t i q b;omega
theorem rK(g:Nat->Nat):∀n:Nat,∃M,∀x,x<n->g x<=M
 | 0=>⟨0,fun x h=>by omega⟩
 | n+1=>by
  obtain⟨M,h⟩:=rK g n;refine⟨M+g n,fun x a=>?_⟩;by_cases e:x=n
  ·subst e;omega
  ·have:=h x (by omega);omega
theorem Inv.sound(h:Inv f)(hd:f.n b=some d):∃k lo hi,Ok f.n k b lo hi:=by
 obtain⟨ht,C⟩:=h.ic.ht;obtain⟨M,B⟩:=rK ht f.c.length;have key:∀(m:Nat) (b:Nat) (d:Nd),M-ht b<=m->f.n b=some d->∃k lo hi,Ok f.n k b lo hi:=by
  intro m;induction m with
  | zero=>
   intro b d H hd;have v:=h.ic.lt hd;have w:=h.ic.a7 hd;rw[h.ic.names v]at w;by_cases y:0<rc f.r b
   ·obtain⟨r,p,A⟩:=List.mem_map.1 (List.count_pos_iff.1 y)
    obtain⟨t,n,s⟩:=List.getElem_of_mem p;obtain⟨k,l,_⟩:=h.ok t n;refine⟨k,none,none,?_⟩;have:aB f t=b:=by unfold aB;rw[gD,gE n,s];exact A
    rw[<-this];exact l
   ·have u:0<deg f.n f.c.length b:=by omega
    obtain⟨x,z,c⟩:=jQ u;cases a:f.n x with
    | none=>simp[a,cF]at c
    | some i=>
     rw[a]at c;have g:b∈kids i:=List.count_pos_iff.1 c;rcases C x i a with⟨q,_⟩ | ⟨_,q⟩
     ·simp[kids,q]at g
     ·have:=q b g;have:=B x z;omega
  | succ m ih=>
   intro b d H hd;have v:=h.ic.lt hd;have w:=h.ic.a7 hd;rw[h.ic.names v]at w;by_cases y:0<rc f.r b
   ·obtain⟨r,p,A⟩:=List.mem_map.1 (List.count_pos_iff.1 y)
    obtain⟨t,n,s⟩:=List.getElem_of_mem p;obtain⟨k,l,_⟩:=h.ok t n;refine⟨k,none,none,?_⟩;have:aB f t=b:=by unfold aB;rw[gD,gE n,s];exact A
    rw[<-this];exact l
   ·have u:0<deg f.n f.c.length b:=by omega
    obtain⟨x,z,c⟩:=jQ u;cases a:f.n x with
    | none=>simp[a,cF]at c
    | some i=>
     rw[a]at c;have g:b∈kids i:=List.count_pos_iff.1 c;rcases C x i a with⟨q,_⟩ | ⟨J,q⟩
     ·simp[kids,q]at g
     ·have L:=q b g
      have N:=B x z;obtain⟨k,lo,hi,l⟩:=ih x i (by omega) a;cases k with
      | zero=>obtain⟨es,o,_⟩:=l;rw[a]at o;cases o;simp at J
      | succ k=>
       obtain⟨es,o,_,_,_,F⟩:=l;rw[a]at o;cases o;rw[kids,if_pos rfl]at g;obtain⟨e,D,K⟩:=List.mem_map.1 g;obtain⟨j,G,E⟩:=cH D;have:=(F j G).2;have I:kd es j=b:=by unfold kd;rw[E];exact K
       rw[I]at this;exact⟨k,_,_,this⟩
 exact key _ b d (nR _) hd
theorem Inv.ai(h:Inv f)(hd:f.n b=some d):d.2.length<=5:=by
 obtain⟨k,i,g,e⟩:=h.sound hd;obtain⟨d',a,_,c,_⟩:=e.ba;rw[hd]at a;cases a;exact c
theorem oY{g:Nat->Nat}:∀{n:Nat},(∀x,x<n->g x<=m)->cX n g<=n*m
 | 0,_=>by simp[cX]
 | n+1,h=>by
  have a:=oY (n:=n) fun x c=>h x (by omega);have b:=h n (by omega);simp only[cX];rw[Nat.succ_mul];omega
theorem Inv.counts(h:Inv f)(x:Nat):0<=cu f x/\cu f x<=2576:=by
 by_cases c:x<f.c.length
 ·rw[h.ic.names c]
  have e:rc f.r x<=16:=by
   have:=List.count_le_length (a:=x) (l:=f.r.map fun r=>r.2.toNat)
   have:=h.br
   unfold rc;simp at *;omega
  have g:deg f.n f.c.length x<=f.c.length*5:=oY fun y k=>by
   cases b:f.n y with
   | none=>simp[cF]
   | some d=>
    have:=h.ai b
    have i:=List.count_le_length (a:=x) (l:=kids d);have j:(kids d).length<=d.2.length:=by unfold kids;split<;>simp
    simp only[cF];omega
  have:=h.ic.al
  omega
 ·rw[wR (by omega)];omega
theorem Ok.spine:∀{h b:Nat} {lo hi:OB},Ok nodes h b lo hi->∀{ht:Nat->Nat},Hts nodes ht->∃l:List Nat,l.length=h+1/\(∀x∈l,ht x<=h/\∃d,nodes x=some d)/\l.Nodup
 | 0,b,lo,hi,k,ht,a=>by
  obtain⟨d,n,_⟩:=k.ba;have:=nY a k;exact⟨[b],rfl,fun x c=>by simp only[List.mem_singleton]at c;subst c;exact⟨by omega,d,n⟩,by simp⟩
 | h+1,b,lo,hi,k,ht,a=>by
  have t:=nY a k;obtain⟨es,i,r,j,s,m⟩:=k;have g:0<es.length:=List.length_pos_iff.2 j;obtain⟨l,o,f,p⟩:=Ok.spine (m 0 g).2 a;refine⟨b :: l,by simp[o],fun x c=>?_,List.nodup_cons.2 ⟨fun q=>?_,p⟩⟩
  ·rcases List.mem_cons.1 c with e | e
   ·subst e;exact⟨by omega,_,i⟩
   ·exact⟨by have:=(f x e).1;omega,(f x e).2⟩
  ·have:=(f b q).1;omega
theorem Ok.high(h:IC f)(e:Ok f.n k b lo hi):k<f.c.length:=by
 obtain⟨ht,c⟩:=h.ht;obtain⟨l,m,i,j⟩:=e.spine c;have:=few f.c.length l j fun x g=>by
  obtain⟨_,d,a⟩:=i x g;exact h.lt a
 omega
def hgt(nodes:Nat->Option Nd):Nat->Nat->Nat
 | 0,_=>0
 | n+1,b=>match nodes b with
  | some (k,e :: _)=>if k=2 then hgt nodes n (ch e)+1 else 0
  | _=>0
theorem aIZ:∀{n h b:Nat} {lo hi:OB},Ok nodes h b lo hi->h<=n->hgt nodes n b=h
 | 0,h,b,lo,hi,k,c=>by
  have:h=0:=by omega
  subst this;rfl
 | n+1,0,b,lo,hi,k,c=>by
  obtain⟨es,a,_⟩:=k;unfold hgt;rw[a];cases es<;>simp
 | n+1,h+1,b,lo,hi,k,c=>by
  obtain⟨es,a,i,f,j,g⟩:=k;unfold hgt;rw[a];cases es with
  | nil=>exact absurd rfl f
  | cons e es=>
   have:=aIZ (n:=n) (g 0 (by simp)).2 (by omega)
   simp only[if_pos];have d:kd (e :: es) 0=ch e:=rfl;rw[d]at this;rw[this]
def hOf(f:fZ)(t:Nat):Nat:=hgt f.n 512 (aB f t)
theorem Inv.hOf(h:Inv f)(ht:t<f.r.length):Wk f t (hOf f t)/\cJ f t (hOf f t)/\Fo.hOf f t<512:=by
 obtain⟨H,a,b⟩:=h.wk ht;have c:=a.ok.high h.ic;have:Fo.hOf f t=H:=aIZ a.ok (by have:=h.ic.al;omega);rw[this];exact⟨a,b,by have:=h.ic.al;omega⟩
def bK(c:List Int)(p:List Int):List Int:=p.foldl (fun l x=>l.set x.toNat 1) c
theorem jC(p:List Int):∀c:List Int,(bK c p).length=c.length:=by
 induction p with
 | nil=>intro c;rfl
 | cons x p ih=>intro c;show(bK (c.set x.toNat 1) p).length=_;rw[ih];simp
theorem aAM(p:List Int):∀(c:List Int) (i:Nat),(bK c p).getD i 0=c.getD i 0\/((bK c p).getD i 0=1/\(i:Int)∈p.map fun x=>(x.toNat:Int)):=by
 induction p with
 | nil=>intro c i;exact .inl rfl
 | cons x p ih=>
  intro c i;show(bK (c.set x.toNat 1) p).getD i 0=_\/((bK (c.set x.toNat 1) p).getD i 0=_/\_)
  rcases ih (c.set x.toNat 1) i with e | ⟨e,e'⟩
  ·rw[e,dI]
   by_cases q:x.toNat=i/\x.toNat<c.length
   ·rw[if_pos q];exact .inr ⟨rfl,by rw[List.map_cons,q.1];exact List.mem_cons_self⟩
   ·rw[if_neg q];exact .inl rfl
  ·exact .inr ⟨e,List.mem_cons_of_mem _ e'⟩
def dS(f:fZ)(p:List Int):fZ:={f with m:=bK f.c p,table:=p,gen:=f.gen+1}
theorem Inv.settle(h:Inv f){p:List Int}(d:∀x∈p,2<=x)(j:f.gen<1099511627776):Inv (dS f p):=by
 have i:IC (dS f p):=⟨h.ic.n8,h.ic.al,jC _ _,h.ic.D0,⟨h.ic.bb.dead,h.ic.bb.pos⟩,h.ic.two,h.ic.rb,h.ic.kb,h.ic.ht⟩;have a:∀b,co (dS f p) b=cu f b\/(co (dS f p) b=1/\(b:Int)∈p.map fun x=>(x.toNat:Int)):=fun b=>aAM p f.c b;refine⟨i,h.ne,h.br,h.ok,h.ids,h.en,h.nx,⟨by show 1<=f.gen+1;have:=h.gn;omega,by show f.gen+1<=_;omega⟩,fun b c=>?_,fun b=>?_⟩
 ·rcases a b with e | ⟨e,e'⟩
  ·rw[e];exact(h.ic.bb.dead b).1 (h.ic.two b c)
  ·obtain⟨x,g,q⟩:=List.mem_map.1 e'
   have:=d x g;omega
 ·have:=h.counts b
  rcases a b with e | ⟨e,_⟩<;>rw[e]<;>omega
def aJ(n:Nat):fZ:={r:=[(0,2)],next:=1,gen:=1,n:=fun b=>if b=2 then some (1,[])else none,c:=(List.replicate n 0).set 2 1,m:=((List.replicate n 0).set 2 1).set 3 1,table:=[3]}
theorem eK(n i:Nat):(List.replicate n (0:Int)).getD i 0=0:=by
 rw[gD,List.getElem?_replicate];split<;>rfl
theorem Inv.fresh(z:8<=n)(w:n<=512):Inv (aJ n):=by
 have k:∀b,cu (aJ n) b=if b=2 then 1 else 0:=fun b=>by
  show((List.replicate n (0:Int)).set 2 1).getD b 0=_
  rw[dI,eK];by_cases e:b=2
  ·subst e;rw[if_pos ⟨rfl,by simp;omega⟩,if_pos rfl]
  ·rw[if_neg (fun q=>e q.1.symm),if_neg e]
 have l:∀b,co (aJ n) b=if b=2\/b=3 then 1 else 0:=fun b=>by
  show(((List.replicate n (0:Int)).set 2 1).set 3 1).getD b 0=_
  rw[dI,dI,eK];by_cases e:b=3
  ·subst e;rw[if_pos ⟨rfl,by simp;omega⟩,if_pos (.inr rfl)]
  ·rw[if_neg (fun q=>e q.1.symm)]
   by_cases m:b=2
   ·subst m;rw[if_pos ⟨rfl,by simp;omega⟩,if_pos (.inl rfl)]
   ·rw[if_neg (fun q=>m q.1.symm),if_neg (by omega)]
 have o:(aJ n).c.length=n:=by simp[aJ]
 have f:∀b d,(aJ n).n b=some d->b=2/\d=(1,[]):=fun b d a=>by
  simp only[aJ]at a;split at a
  ·rename_i e;cases a;exact⟨e,rfl⟩
  ·cases a
 have s:∀x,deg (aJ n).n n x=0:=fun x=>by
  have:deg (aJ n).n n x<=n*0:=oY fun y B=>by
   cases h:(aJ n).n y with
   | none=>simp[cF]
   | some d=>obtain⟨_,rfl⟩:=f y d h;simp[cF,kids]
  omega
 have v:IC (aJ n):=by
  refine⟨by omega,by omega,by simp[aJ],fun x A=>?_,⟨fun b=>?_,fun b=>?_⟩,fun b u=>?_,fun r p=>?_,fun b d a=>?_,fun _=>0,fun b d a=>?_⟩
  ·unfold df
   rw[o]at *;rw[k,s];have:rc (aJ n).r x=if x=2 then 1 else 0:=by
    show([(2:Int).toNat]:List Nat).count x=_
    rw[List.count_singleton];by_cases e:x=2
    ·subst e;simp
    ·rw[if_neg e];simp;omega
   rw[this];by_cases e:x=2<;>simp[e]
  ·rw[k]
   by_cases e:b=2
   ·subst e;simp[aJ]
   ·simp[aJ,e]
  ·rw[k];split<;>omega
  ·simp[aJ];omega
  ·simp only[aJ,List.mem_singleton]at p;subst p;rw[o];exact⟨by decide,by simp;omega⟩
  ·obtain⟨_,rfl⟩:=f b d a;exact .inl rfl
  ·obtain⟨_,rfl⟩:=f b d a;exact .inl ⟨rfl,rfl⟩
 refine⟨v,by simp[aJ],by simp[aJ],fun t ht=>⟨0,?_,.inl rfl⟩,fun i j C g=>?_,fun i c=>?_,by simp[aJ],by simp[aJ],fun b u=>?_,fun b=>?_⟩
 ·have:t=0:=by simp[aJ]at ht;omega
  subst this;exact⟨[],rfl,⟨fun i j _ g=>by simp at g,fun i c=>by simp at c,fun i c=>by simp at c,by simp⟩,fun i c=>by simp at c⟩
 ·simp[aJ]at g;omega
 ·have:i=0:=by simp[aJ]at c;omega
  subst this;simp[aJ,rid]
 ·rw[l,if_neg (by omega)]
 ·rw[l];split<;>omega
