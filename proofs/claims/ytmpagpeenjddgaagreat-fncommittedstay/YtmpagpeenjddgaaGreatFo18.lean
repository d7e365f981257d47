import Derived.Test.YtmpagpeenjddgaaGreatFo14
set_option linter.all false
namespace Go.Proofs.YtmpagpeenjddgaaGreat.Fo
variable{key:ByteArray}{k:Int}{ces es:List E3}{P:List Nat}{H a b c h i t:Nat}{E ht:Nat->Nat}{A:Nat->Prop}{d:Nd}{hi lo:OB}{f g:fZ}
theorem Wk.merge(w:Wk f t H)(p:aN f t H P b (h+1) lo hi){es':List E3}(g:f.n b=some (2,es))(L:a+1<es.length){les res ses:List E3}{s:Nat}
  (D:(c=kd es a/\s=kd es (a+1)/\ces=les/\ses=res)\/(c=kd es (a+1)/\s=kd es a/\ces=res/\ses=les)) (hc:f.n c=some (k,ces)) (v:f.n s=some (k,ses)) (N:cu f c=1)
  (h5:les.length+res.length<=5) (ai:es'.length+1=es.length) (I:∀j,ky es' j=if j<=a then ky es j else ky es (j+1)) (iz:∀j,kd es' j=if j<a then kd es j else if j=a then c else kd es (j+1))
  (hv:∀j,j<es'.length->(es'.getD j e0).2.1=ByteArray.empty) (Rb:∀x,(kids (2,es')).count x+one s x=(kids (2,es)).count x) (cq:∀e∈es',0<=e.2.2) (h3:P≠[]->3<=es.length):
  let f':=mergeF f b c s k (les++res) es'
  Wk f' t H/\(3<=es.length->cI f t H->cI f' t H)/\f'.n b=some (2,es')/\aN f' t H P b (h+1) lo hi/\aN f' t H (b :: P) c h (some (ky es a)) (nxt es (a+1) hi)/\f'.n c=some (k,les++res)/\
   (∀key x,x∈kids (k,ces)->∀W,Mem f.n W x key->Mem f'.n W x key):=by
 intro f';have g8:=aQ (show a<es.length by omega);have IT:=aQ L;have u:c∈kids (2,es):=by rcases D with⟨q,_⟩ | ⟨q,_⟩<;>(rw[q];assumption)
 have B:s∈kids (2,es):=by rcases D with⟨_,q,_⟩ | ⟨_,q,_⟩<;>(rw[q];assumption)
 have T:c≠s:=fun e=>by
  rcases D with⟨n,F,_⟩ | ⟨n,F,_⟩
  ·have e':kd es (a+1)=kd es a:=by rw[<-n,<-F,e]
   have:=dZ (by rw[<-n];exact(w.ic.only N g u).2.1) (show a<es.length by omega) L e';omega
  ·have e':kd es a=kd es (a+1):=by rw[<-n,<-F,e]
   have:=dZ (by rw[<-n];exact(w.ic.only N g u).2.1) L (show a<es.length by omega) e';omega
 have NR:es'≠[]:=fun e=>by rw[e]at ai;simp at ai;omega
 obtain⟨es0,n,G,e3,e4,V⟩:=(p.ok w.ok).1;rw[g]at n;cases n;have E:OkN f.n h (k,les) (some (ky es a)) (some (ky es (a+1)))/\2<=les.length:=by
  have l:=V a (by omega);rw[cQ _ L]at l;rcases D with⟨n,F,o,r⟩ | ⟨n,F,o,r⟩
  ·rw[<-n]at l;rw[<-o];exact⟨(dO hc).1 l.2,by have:=l.1;unfold sz at this;rw[hc]at this;exact this⟩
  ·rw[<-F]at l;rw[<-r];exact⟨(dO v).1 l.2,by have:=l.1;unfold sz at this;rw[v]at this;exact this⟩
 have M:OkN f.n h (k,res) (some (ky es (a+1))) (nxt es (a+1) hi)/\2<=res.length:=by
  have l:=V (a+1) L;rcases D with⟨n,F,o,r⟩ | ⟨n,F,o,r⟩
  ·rw[<-F]at l;rw[<-r];exact⟨(dO v).1 l.2,by have:=l.1;unfold sz at this;rw[v]at this;exact this⟩
  ·rw[<-n]at l;rw[<-o];exact⟨(dO hc).1 l.2,by have:=l.1;unfold sz at this;rw[hc]at this;exact this⟩
 have ph:les≠[]:=fun e=>by rw[e]at E;have:=E.2;simp at this
 have Gr:res≠[]:=fun e=>by rw[e]at M;have:=M.2;simp at this
 have okj:OkN f.n h (k,les++res) (some (ky es a)) (nxt es (a+1) hi):=E.1.join M.1 (eI _) ph Gr h5;have ki:∀e,e∈les++res->e∈ces\/e∈ses:=fun e Y=>by
  rcases D with⟨_,_,o,r⟩ | ⟨_,_,o,r⟩
  ·rw[o,r];exact List.mem_append.1 Y
  ·rw[o,r];exact(List.mem_append.1 Y).symm
 obtain⟨I1,I2⟩:=w.ic.merge (pes':=es') (ces':=les++res) g u B T hc v Rb cq NR (fun x=>by
  rw[oG,List.count_append];rcases D with⟨_,_,o,r⟩ | ⟨_,_,o,r⟩
  ·rw[o,r]
  ·rw[o,r];omega) ki (by simp[ph])
 have sa:c≠b:=fun e=>w.ic.ag g (by rw[<-e];exact u);have VV:s≠b:=fun e=>w.ic.ag g (by rw[<-e];exact B);have Z:f'.n b=some (2,es'):=by
  rw[I2];split
  ·rw[aC _ _ (Ne.symm VV),aD]
  ·rw[aD]
 have nc:f'.n c=some (k,les++res):=by
  rw[I2];split
  ·rw[aC _ _ T,aC _ _ sa,aD]
  ·rw[aC _ _ sa,aD]
 have nx:∀x,x≠b->x≠c->¬(x=s/\cu f s=1)->f'.n x=f.n x:=fun x l X h3=>by
  rw[I2];split
  ·rename_i q;rw[aC _ _ (fun e=>h3 ⟨e,q⟩),aC _ _ l,aC _ _ X]
  ·rw[aC _ _ l,aC _ _ X]
 have Hp:∀x,(x=c\/(x=s/\cu f s=1))->cu f x=1/\x∈kids (2,es):=fun x q=>by
  rcases q with q | ⟨q,q'⟩
  ·rw[q];exact⟨N,u⟩
  ·rw[q];exact⟨q',B⟩
 have Hv:∀x d,f.n x=some d->x≠b->¬(x=c\/(x=s/\cu f s=1))->f'.n x=some d:=fun x d m wd BC=>by
  rw[nx x wd (fun e=>BC (.inl e)) (fun e=>BC (.inr e))];exact m
 obtain⟨U,mi,Q,hU⟩:=p.cl w.ic w.tl g (fun x=>x=c\/(x=s/\cu f s=1)) Hp Hv;have BM:∀x,x∈kids (k,ces)\/x∈kids (k,ses)->U x:=fun x m=>by
  have key:∀{s':Nat} {ds:List E3},s'∈kids (2,es)->f.n s'=some (k,ds)->x∈kids (k,ds)->U x:=fun {s' ds} Lw hd m=>by
   obtain⟨dc,jf⟩:=w.ic.af hd m;obtain⟨o1,o2⟩:=p.az w.ic g Lw hd m;exact hU x dc jf o1 fun q=>by
    rcases q with q | ⟨q,_⟩
    ·exact o2 (q▸u)
    ·exact o2 (q▸B)
  rcases m with m | m
  ·exact key u hc m
  ·exact key B v m
 have S:Ok f'.n h c (some (ky es a)) (nxt es (a+1) hi):=(dO nc).2 (okj.kids fun x m W lo' ap R=>by
  obtain⟨rfl,e,Y,rfl⟩:=cM m;have:U (ch e):=BM _ ((ki e Y).imp (fun q=>aW.2 ⟨e,q,rfl⟩) fun q=>aW.2 ⟨e,q,rfl⟩);exact⟨Ok.frame mi Q _ _ _ _ this R,by unfold sz;rw[Q _ this]⟩)
 have jd:∀j,nxt es' j hi=if j<a then nxt es j hi else nxt es (j+1) hi:=fun j=>by
  by_cases C:j<a
  ·rw[if_pos C,cQ _ (by omega),cQ _ (by omega),I,if_pos (by omega)]
  ·rw[if_neg C]
   unfold nxt;by_cases O:j+1<es'.length
   ·rw[if_pos O,if_pos (by omega),I,if_neg (by omega)]
   ·rw[if_neg O,if_neg (by omega)]
 have aw:∀y∈P,y≠b:=fun y J e=>by
  obtain⟨te,hh⟩:=w.ic.ht;have:=p.high hh y J;rw[e]at this;omega
 have Cj:∀y∈P,f'.n y=f.n y:=fun y J=>nx y (aw y J) (fun e=>p.ax w.ic g u (e▸List.mem_cons_of_mem _ J)) (fun e=>p.ax w.ic g B (e.1▸List.mem_cons_of_mem _ J));have ku:(setN (setN f c (k,les++res)) b (2,es')).n s=some (k,ses):=by
  show upd (upd f.n c _) b _ s=_
  rw[aC _ _ VV,aC _ _ (Ne.symm T)];exact v
 have pf:∀y,y≠s->y∉kids (k,ses)->cu f' y=cu f y:=fun y l X=>nQ (f:=setN (setN f c (k,les++res)) b (2,es')) (w.ic.lt v) ku (fun x m=>w.ic.bf v m) l X;have XC:∀y∈b :: P,cu f' y=cu f y:=fun y J=>pf y (fun e=>p.ax w.ic g B (e▸J)) (fun R=>(p.az w.ic g B v R).1 J);have ju:f'.r=f.r:=dX _ _;have p':aN f' t H P b (h+1) lo hi:=p.mono (by unfold aB;rw[ju]) XC Cj;have jh:Ok f'.n (h+1) b lo hi:=by
  refine aEE Z ⟨fun i j iu hj=>?_,fun j hj=>?_,fun j hj=>?_,by have:=G.bx;omega⟩ NR hv fun j hj=>?_
  ·rw[I,I]
   by_cases i1:i<=a
   ·rw[if_pos i1]
    by_cases C:j<=a
    ·rw[if_pos C];exact G.a6 i j iu (by omega)
    ·rw[if_neg C];exact G.a6 i _ (by omega) (by omega)
   ·rw[if_neg i1,if_neg (by omega)];exact G.a6 _ _ (by omega) (by omega)
  ·rw[I];split
   ·exact G.lo j (by omega)
   ·exact G.lo _ (by omega)
  ·rw[I];split
   ·exact G.hi j (by omega)
   ·exact G.hi _ (by omega)
  ·have A:∀z,z<es.length->z≠a->z≠a+1->2<=sz f'.n (kd es z)/\Ok f'.n h (kd es z) (some (ky es z)) (nxt es z hi):=fun z K n1 n2=>by
    obtain⟨dj,KP⟩:=w.ic.af g (aQ K);have:U (kd es z):=hU _ dj KP (p.ax w.ic g (aQ K)) fun q=>by
     rcases q with q | ⟨q,q'⟩
     ·rcases D with⟨r1,_⟩ | ⟨r1,_⟩
      ·rw[r1]at q;exact n1 (dZ (by rw[<-r1];exact(w.ic.only N g u).2.1) (by omega) K q)
      ·rw[r1]at q;exact n2 (dZ (by rw[<-r1];exact(w.ic.only N g u).2.1) L K q)
     ·rcases D with⟨_,r1,_⟩ | ⟨_,r1,_⟩
      ·rw[r1]at q;exact n2 (dZ (by rw[<-r1];exact(w.ic.only q' g B).2.1) L K q)
      ·rw[r1]at q;exact n1 (dZ (by rw[<-r1];exact(w.ic.only q' g B).2.1) (by omega) K q)
    exact⟨by unfold sz;rw[Q _ this];exact(V z K).1,Ok.frame mi Q _ _ _ _ this (V z K).2⟩
   rw[iz,I,jd];by_cases C:j<a
   ·rw[if_pos C,if_pos (by omega),if_pos C];exact A j (by omega) (by omega) (by omega)
   ·rw[if_neg C,if_neg C]
    by_cases O:j=a
    ·rw[if_pos O,if_pos (by omega),O]
     exact⟨by unfold sz;rw[nc];simp only[lP];have:=E.2;omega,S⟩
    ·rw[if_neg O,if_neg (by omega)];exact A _ (by omega) (by omega) (by omega)
 have ay:sz f'.n b=es'.length:=by unfold sz;rw[Z]
 refine⟨w.step p I1 ju g _ Hp Hv jh (fun hP=>by rw[ay];have:=h3 hP;omega),fun O5 ed=>p.rt (by unfold aB;rw[ju]) Cj (fun h0 hP=>by rw[ay];omega) ed,Z,p',?_,nc,fun key x m W hm=>Mem.frame mi Q _ _ (BM x (.inl m)) hm⟩;have nu:kd es' a=c:=by rw[iz,if_neg (by omega),if_pos rfl]
 have:=aN.down p' Z (i:=a) (by omega) (by rw[nu,pf c T (fun R=>(p.az w.ic g B v R).2 u)];exact N)
 rw[nu,I,if_pos (nR a),jd,if_neg (by omega)]at this;exact this
theorem Wk.cm(w:Wk f t (h+1)){e:E3}(g:f.n (aB f t)=some (2,[e]))(h1:cu f (aB f t)=1)(hc:cu f (ch e)=1):
  let f':=fallF f t (aB f t) (ch e)
  Wk f' t h/\aN f' t h [] (ch e) h none none/\aB f' t=ch e/\cI f' t h/\(∀x,x≠aB f t->f'.n x=f.n x)/\(∀key,Mem f.n h (ch e) key->Mem f'.n h (ch e) key):=by
 intro f';obtain⟨D,E⟩:=w.ic.cm (t:=t) (r:=aB f t) w.tl rfl g h1;have K:=w.ic.a2 (aP w.tl) h1;have z:ch e∈kids (2,[e]):=by simp[gP]
 have j:aB f' t=ch e:=by
  show((f.r.set t _).getD t (0,0)).2.toNat=_
  simp[gD,w.tl]
 have v:∀u,u≠t->aB f' u=aB f u:=fun u a=>by
  show((f.r.set t _).getD u (0,0)).2.toNat=_
  unfold aB;simp only[gD,List.getElem?_set,if_neg (Ne.symm a)]
 have A:∀x,x≠aB f t->f'.n x=f.n x:=fun x l=>by rw[E,aC _ _ l]
 let U:Nat->Prop:=fun x=>(∃d,f.n x=some d)/\x≠aB f t
 have o:∀x d,U x->f.n x=some d->∀c∈kids d,U c:=fun x d' _ l c y=>
  ⟨w.ic.af l y,fun e=>K.2 x d' l (by have:c=(f.r.getD t (0,0)).2.toNat:=e;rw[<-this];exact y)⟩
 have i:∀x,U x->f'.n x=f.n x:=fun x ⟨_,h1⟩=>A x h1;have k:U (ch e):=⟨w.ic.af g z,fun q=>w.ic.ag g (q▸z)⟩;obtain⟨G,B,_,_,_,F⟩:=w.ok;rw[g]at B;cases B;have n:=F 0 (by simp);have L:kd [e] 0=ch e:=rfl;rw[L]at n;have p:Ok f'.n h (ch e) none none:=(Ok.frame o i _ _ _ _ k n.2).wide (fun _ _=>trivial) (fun _ _=>trivial);refine⟨⟨D,by show t <(f.r.set t _).length;simpa using w.tl,by rw[j];exact p,fun u a m=>?_⟩,?_,j,.inr (by rw[j];unfold sz;rw[i _ k];exact n.1),A,fun key J=>Mem.frame o i _ _ k J⟩
 ·have a:u<f.r.length:=by have:u <(f.r.set t _).length:=a;simpa using this
  obtain⟨I,g1,b⟩:=w.eb u a m;have s:U (aB f u):=⟨w.ic.ao (aP a),nB w.ic w.tl a m h1⟩;refine⟨I,by rw[v u m];exact Ok.frame o i _ _ _ _ s g1,?_⟩;rcases b with b | b
  ·exact .inl b
  ·refine .inr ?_
   unfold sz at b |-;rw[v u m,i _ s];exact b
 ·have C:ch e≠aB f t:=k.2
  have:=aN.here (f:=f') (t:=t) (H:=h) (by
   rw[j];exact(fH f (aB f t) (ch e) 0 (w.ic.lt g)).trans ((if_neg (Ne.symm C)).trans hc))
  rw[j]at this;exact this
theorem Wk.bh(w:Wk f t H)(p:aN f t H P b (h+1) lo hi)(a:f.n b=some (2,es))(o:i<es.length)(m:shadow f (.ai b i)=some (g,c)):
  (∀key h',Mem f.n h' (kd es i) key->Mem g.n h' c key)/\(∀x∈kids (2,es),x≠kd es i->g.n x=f.n x/\cu g x=cu f x/\∀key h',Mem f.n h' x key->Mem g.n h' x key)/\
   (∀es',g.n b=some (2,es')->∀j,(es'.getD j e0).2.1=(es.getD j e0).2.1/\(j≠i->es'.getD j e0=es.getD j e0)):=by
 have J:look f b=(2,es):=aE a;have B:bK f (.ai b i)=kd es i:=by simp only[bK,J];rfl
 unfold shadow at m;rw[B]at m;by_cases O:own f (kd es i)
 ·rw[if_pos O]at m;cases m
  exact⟨fun _ _ q=>q,fun _ _ _=>⟨rfl,rfl,fun _ _ q=>q⟩,fun es' h' j=>by rw[a]at h';cases h';exact⟨rfl,fun _=>rfl⟩⟩
 ·rw[if_neg O]at m
  by_cases C:aF f=0
  ·rw[if_pos C]at m;cases m
  ·rw[if_neg C]at m;cases m
   obtain⟨iw,R,A,_⟩:=aO C;generalize aF f=q at *;obtain⟨d,l⟩:=w.ic.af a (aQ o);have M:dT f (.ai b i):=⟨w.ic.lt a,es,a,o⟩;obtain⟨I1,u,I3,I4,I5⟩:=w.ic.shadow M B l iw R A;have y:f.n q=none:=(w.ic.a8.dead q).2 A;have r:=aQ o;have sa:kd es i≠b:=fun e=>w.ic.ag a (by rw[<-e];exact r);have V:kd es i≠q:=fun e=>by rw[e,y]at l;cases l
   have T:b≠q:=fun e=>by rw[e,y]at a;cases a
   have W:=w.ic.ag l;have nb:(shadowAt f (.ai b i) q).n b=some (setE (2,es) i q):=by
    rw[u];unfold shN cpN;simp only[J];split
    ·rw[aC _ _ (Ne.symm sa),aD]
    ·rw[aD]
   have nq:(shadowAt f (.ai b i) q).n q=some d:=by
    rw[u];unfold shN cpN;simp only;split
    ·rw[aC _ _ (Ne.symm V),aC _ _ (Ne.symm T),aD]
    ·rw[aC _ _ (Ne.symm T),aD]
   have nx:∀x,x≠b->x≠q->¬(x=kd es i/\cu f (kd es i)=1)->(shadowAt f (.ai b i) q).n x=f.n x:=fun x K L h3=>by
    rw[u];unfold shN cpN;simp only;split
    ·rename_i pf
     rw[aC _ _ (fun e=>h3 ⟨e,pf⟩),aC _ _ K,aC _ _ L]
    ·rw[aC _ _ K,aC _ _ L]
   have I:∀{x:Nat} {d':Nd},f.n x=some d'->x≠q:=fun n e=>by rw[e,y]at n;cases n
   obtain⟨U,Q,z,N⟩:=p.cl w.ic w.tl a (nodes':=(shadowAt f (.ai b i) q).n) (fun x=>x=kd es i/\cu f (kd es i)=1) (fun x ⟨S,q2⟩=>⟨by rw[S];exact q2,by rw[S];exact r⟩) (fun x d n wd X=>by rw[nx x wd (I n) X];exact n);refine⟨fun key h' s=>?_,fun x n E=>?_,fun es' h' j=>?_⟩
   ·rw[bX nq]
    rw[bX l]at s;obtain⟨k,Z⟩:=d;refine s.more (fun e he=>he) fun c v WZ iN=>?_;obtain⟨Y,jf⟩:=w.ic.af l v;exact Mem.frame Q z _ _ (N c Y jf (p.az w.ic a r l v).1 fun D=>W (D.1▸v)) iN
   ·obtain⟨dx,G⟩:=w.ic.af a n
    have F:=N x dx G (p.ax w.ic a n) fun D=>E D.1;refine⟨z x F,vD w.ic M B l R A E (fun hk=>?_) (I G),fun key h' s=>Mem.frame Q z _ _ F s⟩;exact(p.az w.ic a r l hk).2 n
   ·rw[nb]at h'
    have:es'=es.set i ((es.getD i e0).1,(es.getD i e0).2.1,(q:Int)):=by
     simp only[setE,sJ,Prod.mk.injEq,true_and]at h';exact h'.symm
    rw[this,bB _ _ _ _ _ o];by_cases e:j=i
    ·rw[if_pos e,e];exact⟨rfl,fun q=>absurd rfl q⟩
    ·rw[if_neg e];exact⟨rfl,fun _=>rfl⟩
def fillNext(g:fZ)(b i c:Nat):Option fZ:=
 if 2 <(look g (kd (look g b).2 (i+1))).2.length then
  match shadow g (.ai b (i+1))with
  | none=>none
  | some (k,s)=>some (moveF k b c s (look k c).1 ((look k c).2++(look k s).2.take 1) ((look k s).2.drop 1) ((look k b).2.set (i+1) (ky (look k s).2 1,((look k b).2.getD (i+1) e0).2)))
 else some (mergeF g b c (kd (look g b).2 (i+1)) (look g c).1 ((look g c).2++(look g (kd (look g b).2 (i+1))).2) (delE (look g b).2 (i+1)))
def fillLast(g:fZ)(b i c:Nat):Option fZ:=
 if 2 <(look g (kd (look g b).2 (i-1))).2.length then
  match shadow g (.ai b (i-1))with
  | none=>none
  | some (k,s)=>some (moveF k b s c (look k c).1 ((look k s).2.take ((look k s).2.length-1)) ((look k s).2.drop ((look k s).2.length-1)++(look k c).2) ((look k b).2.set i (ky (look k s).2 ((look k s).2.length-1),((look k b).2.getD i e0).2)))
 else some (mergeF g b c (kd (look g b).2 (i-1)) (look g c).1 ((look g (kd (look g b).2 (i-1))).2++(look g c).2) (delE ((look g b).2.set i (ky (look g b).2 (i-1),((look g b).2.getD i e0).2)) (i-1)))
def stepDel(f:fZ)(b:Nat)(key:ByteArray):Option (fZ×Nat):=
 match shadow f (.ai b (bI (look f b).2 key))with
 | none=>none
 | some (g,c)=>
  if 2 <(look g c).2.length then some (g,c)else
  if bI (look f b).2 key+1 <(look g b).2.length then(fillNext g b (bI (look f b).2 key) c).map fun k=>(k,c)
  else(fillLast g b (bI (look f b).2 key) c).map fun k=>(k,c)
def delAt:Nat->fZ->Nat->Nat->ByteArray->Option fZ
 | 0,f,t,b,key=>some (setN f b (1,delE (look f b).2 (cLt (look f b).2 key)))
 | h+1,f,t,b,key=>match stepDel f b key with
  | none=>none
  | some (g,c)=>if(look g b).2.length=1 then delAt h (fallF g t (aB g t) (kd (look g b).2 0)) t c key else delAt h g t c key
def bU(f:fZ)(t H:Nat)(key:ByteArray):Option fZ:=
 match shadow f (.root t)with
 | none=>none
 | some (g,r)=>delAt H g t r key
theorem lE(k:Int)(es:List E3)(n x:Nat):(kids (k,es.take n)).count x+(kids (k,es.drop n)).count x=(kids (k,es)).count x:=(sO k es n x).symm
structure Stp(f g:fZ)(t H:Nat)(P:List Nat)(b h:Nat)(lo hi:OB)(c:Nat)(key:ByteArray):Prop where
 wk:Wk g t H
 same:aX f g
 path:∃lo' ap,aN g t H (b :: P) c h lo' ap
 up:aN g t H P b (h+1) lo hi
 spare:3<=sz g.n c
 mem:Mem g.n h c key
 rt:cI f t H->cI g t H\/(P=[]/\∃e,g.n b=some (2,[e])/\ch e=c)
 many:(∃es,g.n b=some (2,es)/\2<=es.length)\/(P=[]/\∃e,g.n b=some (2,[e])/\ch e=c)
theorem Wk.fillNext(w:Wk g t H)(p:aN g t H P b (h+1) lo hi)(o:g.n b=some (2,es))(m:i+1<es.length)(hc:g.n (kd es i)=some (k,ces))(Q:cu g (kd es i)=1)(av:ces.length=2)(U:Mem g.n h (kd es i) key)(h3:P≠[]->3<=es.length)
  {f':fZ} (f:fillNext g b i (kd es i)=some f'):Stp g f' t H P b h lo hi (kd es i) key:=by
 have fq:=aQ (show i<es.length by omega);have vf:=aQ m;obtain⟨es0,A,e2,e3,e4,R⟩:=(p.ok w.ok).1;rw[o]at A;cases A;have K:=(dO hc).1 (R i (by omega)).2;rw[cQ _ m]at K;obtain⟨⟨r,d⟩,v⟩:=w.ic.af o vf;have L:=(dO v).1 (R (i+1) m).2;have rh:r=k:=by
  cases h with
  | zero=>have M:=K.1;have N:=L.1;simp only at M N;omega
  | succ h=>have M:=K.1;have N:=L.1;simp only at M N;omega
 subst rh;have ee:2<=d.length:=by have:=(R (i+1) m).1;unfold sz at this;rw[v]at this;exact this
 have Fs:d.length<=5:=L.node.bx;have gj:kd es i≠kd es (i+1):=fun e=>by
  have:=dZ (w.ic.only Q o fq).2.1 (by omega) m e.symm;omega
 have AH:ces≠[]:=fun e=>by rw[e]at av;simp at av
 unfold Fo.fillNext at f;rw[aE o]at f;simp only at f;rw[aE v]at f;simp only at f;by_cases mq:2<d.length
 ·rw[if_pos mq]at f
  cases C:shadow g (.ai b (i+1))with
  | none=>rw[C]at f;cases f
  | some ks=>
   obtain⟨D,s⟩:=ks;rw[C]at f;simp only[sJ]at f;obtain⟨w2,p2,p3,⟨n,E,m2,m3,F⟩,m5,m6,m7,m8,m9⟩:=w.aj p o m C;obtain⟨s1,s2,s3⟩:=w.bh p o m C;obtain⟨x1,x2,x3⟩:=s2 _ fq gj;have I:kd n i=kd es i:=by unfold kd;rw[(s3 n E i).2 (by omega)]
   have Y:D.n (kd n i)=some (r,ces):=by rw[I,x1];exact hc
   have ut:D.n (kd n (i+1))=some (r,d):=by rw[F,m5];exact v
   obtain⟨es3,A,_,_,_,u⟩:=(p2.ok w2.ok).1;rw[E]at A;cases A;have GO:=(dO Y).1 (u i (by omega)).2;rw[cQ _ (by omega)]at GO;have DG:=(dO ut).1 (u (i+1) (by omega)).2;have KO:D.n s=some (r,d):=by rw[<-F];exact ut
   have Af:D.n (kd es i)=some (r,ces):=by rw[<-I];exact Y
   rw[aE Af,aE KO,aE E]at f;simp only at f;have G:=w2.move p2 E (a:=i) (by omega) Y ut (by rw[I,x2];exact Q) (by rw[F];exact m6) (les':=ces++d.take 1) (res':=d.drop 1) (mid:=ky d 1)
    (GO.join (DG.take (by omega) (by omega)) (eI _) AH (pB (by omega) (by omega)) (by rw[len_take' (by omega)];omega))
    (DG.drop (by omega)) (by rw[lP,len_take' (by omega)];omega) (by rw[List.length_drop];omega)
    (fun x=>by rw[oG,List.count_append];have:=lE r d 1 x;omega)
    (fun e l=>by
     rcases l with l | l
     ·rcases List.mem_append.1 l with l | l
      ·exact .inl l
      ·exact .inr (List.mem_of_mem_take l)
     ·exact .inr (List.mem_of_mem_drop l))
   rw[F,I]at G;simp only at G;rw[f]at G;obtain⟨v1,v2,B,v4,v5,v6,J,v8,v9⟩:=G;have rk:(n.set (i+1) (ky d 1,(n.getD (i+1) e0).2)).length=es.length:=by simp[m2]
   refine⟨v1,m9.trans (f▸aX.moveF ..),⟨_,_,v5⟩,v4,?_,?_,fun V=>.inl (v2 (m8 V)),.inl ⟨_,B,by rw[rk];omega⟩⟩
   ·unfold sz;rw[J];simp only[lP,List.length_take];omega
   ·rw[bX J]
    have ol:=x3 key h U;rw[bX Af]at ol;exact ol.more (fun e l=>List.mem_append_left _ l) fun c O S W=>v9 key c (.inl O) S W
 ·rw[if_neg mq,aE hc]at f
  simp only[sJ]at f;have cq:∀e∈delE es (i+1),0<=e.2.2:=fun e l=>by
   obtain⟨j,T,rfl⟩:=cO (oQ l);exact w.ic.ar o T
  have X:=fun j=>iL es (i+1) e0 (by omega) j;have Z:=w.merge p o (a:=i) m (es':=delE es (i+1)) (.inl ⟨rfl,rfl,rfl,rfl⟩) hc v Q (by omega) (by rw[bM _ _ m];omega)
   (fun j=>by
    unfold ky;rw[X];by_cases q:j<=i
    ·rw[if_pos (by omega),if_pos q]
    ·rw[if_neg (by omega),if_neg q])
   (fun j=>by
    unfold kd;rw[X];by_cases q:j<i
    ·rw[if_pos (by omega),if_pos q]
    ·rw[if_neg q]
     by_cases z:j=i
     ·rw[if_pos (by omega),if_pos z,z]
     ·rw[if_neg (by omega),if_neg z])
   (fun j T=>by
    rw[bM _ _ m]at T;rw[X];split
    ·exact e4 j (by omega)
    ·exact e4 _ (by omega))
   (fun x=>vO es (i+1) x m) cq h3
  simp only at Z
  rw[f]at Z;obtain⟨v1,v2,B,v4,v5,v6,J⟩:=Z;have fk:(∃es',f'.n b=some (2,es')/\2<=es'.length)\/(P=[]/\∃e,f'.n b=some (2,[e])/\ch e=kd es i):=by
   by_cases q:3<=es.length
   ·exact .inl ⟨_,B,by rw[bM _ _ m];omega⟩
   ·refine .inr ⟨by by_cases hP:P=[];exact hP;exact absurd (h3 hP) q,es.getD 0 e0,?_,?_⟩
    ·rw[B]
     have hl:es.length=2:=by omega
     obtain rfl:i=0:=by omega
     match es,hl with
     | [x,y],_=>rfl
    ·obtain rfl:i=0:=by omega
     rfl
  refine⟨v1,f▸aX.mergeF ..,⟨_,_,v5⟩,v4,?_,?_,fun V=>?_,fk⟩
  ·unfold sz;rw[v6];simp only[lP];omega
  ·rw[bX v6]
   rw[bX hc]at U;exact U.more (fun e l=>List.mem_append_left _ l) fun c O S W=>J key c O S W
  ·by_cases q:3<=es.length
   ·exact .inl (v2 q V)
   ·rcases fk with⟨es',n1,n2⟩ | z
    ·rw[B]at n1;cases n1;rw[bM _ _ m]at n2;omega
    ·exact .inr z
theorem Wk.fillLast(w:Wk g t H)(p:aN g t H P b (h+1) lo hi)(n:g.n b=some (2,es))(o:a+1<es.length)(PT:¬a+1+1<es.length)(hc:g.n (kd es (a+1))=some (k,ces))(S:cu g (kd es (a+1))=1)(av:ces.length=2)(W:Mem g.n h (kd es (a+1)) key)(h3:P≠[]->3<=es.length)
  {f':fZ} (f:fillLast g b (a+1) (kd es (a+1))=some f'):Stp g f' t H P b h lo hi (kd es (a+1)) key:=by
 have fq:=aQ o;have vf:=aQ (show a<es.length by omega);obtain⟨es0,A,e2,e3,T,U⟩:=(p.ok w.ok).1;rw[n]at A;cases A;have AD:=(dO hc).1 (U (a+1) o).2;obtain⟨⟨u,d⟩,z⟩:=w.ic.af n vf;have M:=(dO z).1 (U a (by omega)).2;have rh:u=k:=by
  cases h with
  | zero=>have O:=AD.1;have Q:=M.1;simp only at O Q;omega
  | succ h=>have O:=AD.1;have Q:=M.1;simp only at O Q;omega
 subst rh;have ee:2<=d.length:=by have:=(U a (by omega)).1;unfold sz at this;rw[z]at this;exact this
 have Fs:d.length<=5:=M.node.bx;have gj:kd es (a+1)≠kd es a:=fun e=>by
  have:=dZ (w.ic.only S n fq).2.1 o (by omega) e.symm;omega
 have AH:ces≠[]:=fun e=>by rw[e]at av;simp at av
 unfold Fo.fillLast at f;rw[aE n]at f;simp only[Nat.add_sub_cancel]at f;rw[aE z]at f;simp only at f;by_cases mq:2<d.length
 ·rw[if_pos mq]at f
  cases C:shadow g (.ai b a)with
  | none=>rw[C]at f;cases f
  | some ks=>
   obtain⟨D,s⟩:=ks;rw[C]at f;simp only[sJ]at f;obtain⟨w2,p2,p3,⟨l,G,m2,m3,I⟩,m5,m6,m7,m8,m9⟩:=w.aj p n (show a<es.length by omega) C;obtain⟨s1,s2,s3⟩:=w.bh p n (show a<es.length by omega) C;obtain⟨x1,x2,x3⟩:=s2 _ fq gj;have K:kd l (a+1)=kd es (a+1):=by unfold kd;rw[(s3 l G (a+1)).2 (by omega)]
   have jo:D.n (kd l (a+1))=some (u,ces):=by rw[K,x1];exact hc
   have ut:D.n (kd l a)=some (u,d):=by rw[I,m5];exact z
   obtain⟨es3,A,_,_,_,v⟩:=(p2.ok w2.ok).1;rw[G]at A;cases A;have GO:=(dO jo).1 (v (a+1) (by omega)).2;have N:=(dO ut).1 (v a (by omega)).2;rw[cQ _ (by omega)]at N;have KO:D.n s=some (u,d):=by rw[<-I];exact ut
   have Af:D.n (kd es (a+1))=some (u,ces):=by rw[<-K];exact jo
   rw[aE Af,aE KO,aE G]at f;simp only at f;have J:=w2.move p2 G (a:=a) (by omega) ut jo (by rw[I];exact m6) (by rw[K,x2];exact S) (les':=d.take (d.length-1)) (res':=d.drop (d.length-1)++ces) (mid:=ky d (d.length-1))
    (N.take (by omega) (by omega))
    ((N.drop (by omega)).join GO (eI _) (nS (by omega)) AH (by rw[List.length_drop];omega)) (by rw[len_take' (by omega)];omega) (by rw[lP,List.length_drop];omega)
    (fun x=>by rw[oG,List.count_append];have:=lE u d (d.length-1) x;omega)
    (fun e i=>by
     rcases i with i | i
     ·exact .inl (List.mem_of_mem_take i)
     ·rcases List.mem_append.1 i with i | i
      ·exact .inl (List.mem_of_mem_drop i)
      ·exact .inr i)
   rw[I,K]at J;simp only at J;rw[f]at J;obtain⟨v1,v2,B,v4,v5,L,v7,v8,v9⟩:=J;have rk:(l.set (a+1) (ky d (d.length-1),(l.getD (a+1) e0).2)).length=es.length:=by simp[m2]
   refine⟨v1,m9.trans (f▸aX.moveF ..),⟨_,_,L⟩,v4,?_,?_,fun X=>.inl (v2 (m8 X)),.inl ⟨_,B,by rw[rk];omega⟩⟩
   ·unfold sz;rw[v8];simp only[lP,List.length_drop];omega
   ·rw[bX v8]
    have ol:=x3 key h W;rw[bX Af]at ol;exact ol.more (fun e i=>List.mem_append_right _ i) fun c R V Y=>v9 key c (.inr R) V Y
 ·rw[if_neg mq,aE hc]at f
  simp only[sJ]at f;have r:(es.set (a+1) (ky es a,(es.getD (a+1) e0).2)).length=es.length:=by simp
  have F:∀j,(es.set (a+1) (ky es a,(es.getD (a+1) e0).2)).getD j e0=if j=a+1 then(ky es a,(es.getD (a+1) e0).2)else es.getD j e0:=fun j=>bB _ _ _ _ _ o;have Z:∀j,(delE (es.set (a+1) (ky es a,(es.getD (a+1) e0).2)) a).getD j e0=if j<a then es.getD j e0 else if j=a then(ky es a,(es.getD (a+1) e0).2)else es.getD (j+1) e0:=fun j=>by
   rw[iL _ _ _ (by rw[r];omega)];by_cases q:j<a
   ·rw[if_pos q,if_pos q,F,if_neg (by omega)]
   ·rw[if_neg q,if_neg q,F]
    by_cases m:j=a
    ·rw[if_pos (by omega),if_pos m]
    ·rw[if_neg (by omega),if_neg m]
  have Al:kids (2,es.set (a+1) (ky es a,(es.getD (a+1) e0).2))=kids (2,es):=by
   rw[gP,gP];refine List.ext_getElem? fun j=>?_;simp only[List.getElem?_map,List.getElem?_set];split
   ·rename_i e;subst e
    rw[gD,gE o];simp[o,ch]
   ·rfl
  have mg:=w.merge p n (a:=a) o (es':=delE (es.set (a+1) (ky es a,(es.getD (a+1) e0).2)) a) (.inr ⟨rfl,rfl,rfl,rfl⟩) hc z S (by omega) (by rw[bM _ _ (by rw[r];omega),r];omega)
   (fun j=>by
    rw[show ky (delE (es.set (a+1) (ky es a,(es.getD (a+1) e0).2)) a) j=((delE (es.set (a+1) (ky es a,(es.getD (a+1) e0).2)) a).getD j e0).1 from rfl,Z];by_cases q:j<a
    ·rw[if_pos q,if_pos (by omega)];rfl
    ·rw[if_neg q]
     by_cases m:j=a
     ·rw[if_pos m,if_pos (by omega),m]
     ·rw[if_neg m,if_neg (by omega)];rfl)
   (fun j=>by
    unfold kd;rw[Z];by_cases q:j<a
    ·rw[if_pos q,if_pos q]
    ·rw[if_neg q,if_neg q]
     by_cases m:j=a
     ·rw[if_pos m,if_pos m];rfl
     ·rw[if_neg m,if_neg m])
   (fun j E=>by
    rw[bM _ _ (by rw[r];omega),r]at E;rw[Z];split
    ·exact T j (by omega)
    ·split
     ·exact T _ o
     ·exact T _ (by omega))
   (fun x=>by
    have:=vO (es.set (a+1) (ky es a,(es.getD (a+1) e0).2)) a x (by rw[r];omega)
    rw[F,if_neg (by omega),Al]at this;exact this)
   (fun e i=>by
    obtain⟨j,E,rfl⟩:=cO (oQ i);rw[F];split
    ·exact w.ic.ar n o
    ·exact w.ic.ar n (by rw[r]at E;exact E)) h3
  simp only at mg
  rw[f]at mg;obtain⟨v1,v2,B,v4,v5,L,v7⟩:=mg;have Ct:(delE (es.set (a+1) (ky es a,(es.getD (a+1) e0).2)) a).length=es.length-1:=by rw[bM _ _ (by rw[r];omega),r]
  have fk:(∃es',f'.n b=some (2,es')/\2<=es'.length)\/(P=[]/\∃e,f'.n b=some (2,[e])/\ch e=kd es (a+1)):=by
   by_cases q:3<=es.length
   ·exact .inl ⟨_,B,by rw[Ct];omega⟩
   ·refine .inr ⟨by by_cases hP:P=[];exact hP;exact absurd (h3 hP) q,(ky es a,(es.getD (a+1) e0).2),?_,rfl⟩
    rw[B];have hl:es.length=2:=by omega
    obtain rfl:a=0:=by omega
    match es,hl with
    | [x,y],_=>rfl
  refine⟨v1,f▸aX.mergeF ..,⟨_,_,v5⟩,v4,?_,?_,fun X=>?_,fk⟩
  ·unfold sz;rw[L];simp only[lP];omega
  ·rw[bX L]
   rw[bX hc]at W;exact W.more (fun e i=>List.mem_append_right _ i) fun c R V Y=>v7 key c R V Y
  ·by_cases q:3<=es.length
   ·exact .inl (v2 q X)
   ·rcases fk with⟨es',n1,n2⟩ | m
    ·rw[B]at n1;cases n1;rw[Ct]at n2;omega
    ·exact .inr m
theorem Stp.before{f1:fZ}(s:Stp f1 g t H P b h lo hi c key)(a:aX f f1)(hr:cI f t H->cI f1 t H):Stp f g t H P b h lo hi c key:=
 ⟨s.wk,a.trans s.same,s.path,s.up,s.spare,s.mem,fun q=>s.rt (hr q),s.many⟩
theorem Wk.stepDel(w:Wk f t H)(p:aN f t H P b (h+1) lo hi)(hr:cI f t H)(h3:P≠[]->3<=sz f.n b)(K:Mem f.n (h+1) b key)(d:stepDel f b key=some (g,c)):Stp f g t H P b h lo hi c key:=by
 obtain⟨es,l,V,I⟩:=p.inner w;have N:=Mem.at l (p.ok w.ok).1 K;have O:2<=es.length:=by
  by_cases j:P=[]
  ·rcases p.top with⟨_,q,r⟩ | ⟨q,_⟩
   ·rcases hr with hr | hr
    ·omega
    ·rw[<-q]at hr;unfold sz at hr;rw[l]at hr;exact hr
   ·rw[j]at q;cases q
  ·have:=h3 j;unfold sz at this;rw[l]at this;simp only at this;omega
 have D:P≠[]->3<=es.length:=fun j=>by have:=h3 j;unfold sz at this;rw[l]at this;exact this
 unfold Fo.stepDel at d;rw[aE l]at d;simp only at d;have E:=eJ key I;generalize bI es key=i at *;cases u:shadow f (.ai b i)with
 | none=>rw[u]at d;cases d
 | some J=>
  obtain⟨g1,c1⟩:=J;rw[u]at d;simp only at d;obtain⟨s,C,G,⟨e,v,F,Q,L⟩,R,z,S,A,B⟩:=w.aj p l E u;obtain⟨M,T,U⟩:=w.bh p l E u;obtain⟨⟨k,n⟩,o⟩:=s.ic.live (x:=c1) (by rw[z];omega);have W:2<=n.length:=by
   have:=(G.ok s.ok).2 (by simp);unfold sz at this;rw[o]at this;exact this
  rw[aE o,aE v]at d;simp only at d;have y:=M key h N;by_cases q:2<n.length
  ·rw[if_pos q]at d
   simp only[sJ,Prod.mk.injEq]at d;obtain⟨rfl,rfl⟩:=d;exact⟨s,B,⟨_,_,G⟩,C,by unfold sz;rw[o];exact q,y,fun q=>.inl (A q),.inl ⟨e,v,by omega⟩⟩
  ·rw[if_neg q]at d
   subst L;by_cases r:i+1<e.length
   ·rw[if_pos r]at d
    cases m:Fo.fillNext g1 b i (kd e i)with
    | none=>rw[m]at d;cases d
    | some f'=>
     rw[m]at d;simp only[Option.map_some,sJ,Prod.mk.injEq]at d;obtain⟨rfl,rfl⟩:=d;exact(s.fillNext C v r o z (by omega) y (fun j=>by rw[F];exact D j) m).before B A
   ·rw[if_neg r]at d
    cases m:Fo.fillLast g1 b i (kd e i)with
    | none=>rw[m]at d;cases d
    | some f'=>
     rw[m]at d;simp only[Option.map_some,sJ,Prod.mk.injEq]at d;obtain⟨rfl,rfl⟩:=d;obtain⟨a,rfl⟩:∃a,i=a+1:=⟨i-1,by omega⟩;exact(s.fillLast C v (by omega) r o z (by omega) y (fun j=>by rw[F];exact D j) m).before B A
theorem aFC(h:eE es lo hi)(d:a<es.length):eE (delE es a) lo hi:=by
 have b:∀j,ky (delE es a) j=if j<a then ky es j else ky es (j+1):=fun j=>by
  unfold ky;rw[iL _ _ _ (by omega)];split<;>rfl
 have f:=bM es a d;refine⟨fun i j e c=>?_,fun j c=>?_,fun j c=>?_,by have:=h.bx;omega⟩
 ·rw[b,b]
  by_cases q:i<a
  ·rw[if_pos q];split
   ·exact h.a6 i j e (by omega)
   ·exact h.a6 i _ (by omega) (by omega)
  ·rw[if_neg q,if_neg (by omega)];exact h.a6 _ _ (by omega) (by omega)
 ·rw[b];split
  ·exact h.lo j (by omega)
  ·exact h.lo _ (by omega)
 ·rw[b];split
  ·exact h.hi j (by omega)
  ·exact h.hi _ (by omega)
theorem kC(b:Srt es){j:Nat}(c:j<es.length)(e:ky es j=key):fI es key=true/\cLt es key=j:=by
 have a:cLt es key=j:=by
  have g:¬j<cLt es key:=fun q=>by
   have:=(iD b key c).2 q;rw[e,eI]at this;cases this
  have d:∀i,i<j->i<cLt es key:=fun i f=>(iD b key (by omega)).1 (by rw[<-e];exact b i j f c);by_cases q:j=0
  ·omega
  ·have:=d (j-1) (by omega);omega
 exact⟨(dK es key).2 ⟨by omega,by rw[a];exact e⟩,a⟩
theorem rQ:∀{h H:Nat} {f:fZ} (w:Wk f t H) {P:List Nat} {b:Nat} {lo hi:OB} (p:aN f t H P b h lo hi) (h3:P≠[]->3<=sz f.n b) (hr:cI f t H) (hm:Mem f.n h b key) {g:fZ} (hs:delAt h f t b key=some g),
  ∃H',Wk g t H'/\cI g t H'/\aX f g
 | 0,H,f,w,P,b,lo,hi,p,h3,hr,hm,g,hs=>by
  obtain⟨es,l,y,v⟩:=p.leaf w;obtain⟨es',A,j,x,J⟩:=hm;rw[l]at A;cases A;unfold delAt at hs;rw[aE l]at hs;simp only[sJ]at hs;subst hs;have r:cLt es key<es.length:=by rw[(kC y.a6 x J).2];exact x
  obtain⟨d,k⟩:=w.leaf p l (aFC y r) (fun i u=>by
   rw[bM _ _ r]at u;rw[iL _ _ _ (by omega)];split
   ·exact v i (by omega)
   ·exact v _ (by omega)) (fun o=>by
   have:=h3 o;unfold sz at this;rw[l]at this;simp only at this
   rw[bM _ _ r];omega)
  exact⟨H,d,k hr,aX.setN _ _ _⟩
 | h+1,H,f,w,P,b,lo,hi,p,h3,hr,hm,g,hs=>by
  unfold delAt at hs;cases s:stepDel f b key with
  | none=>rw[s]at hs;cases hs
  | some I=>
   obtain⟨g1,c⟩:=I;rw[s]at hs;simp only at hs;have st:=w.stepDel p hr h3 hm s;obtain⟨M,u,z⟩:=st.path;rcases st.many with⟨es,a,m⟩ | ⟨o,e,a,m⟩
   ·rw[aE a]at hs
    simp only at hs
    rw[if_neg (by omega)]at hs;have F:cI g1 t H:=by
     rcases st.rt hr with q | ⟨_,e,q,_⟩
     ·exact q
     ·rw[a]at q;cases q;simp at m
    obtain⟨H',d,k,n⟩:=rQ st.wk z (fun _=>st.spare) F st.mem hs;exact⟨H',d,k,st.same.trans n⟩
   ·rw[aE a]at hs
    rw[if_pos (show([e]:List E3).length=1 from rfl)]at hs;have K:kd [e] 0=ch e:=rfl;rw[K]at hs;subst o;rcases st.up.top with⟨_,q,N⟩ | ⟨q,_⟩
    ·subst N
     rw[q]at a;have G:cu g1 (aB g1 t)=1:=by have:=(st.up.named st.wk.ic st.wk.tl b List.mem_cons_self).1;rw[q]at this;exact this
     have L:cu g1 (ch e)=1:=by rw[m];exact(z.named st.wk.ic st.wk.tl c List.mem_cons_self).1
     obtain⟨B,C,O,D,Q,E⟩:=st.wk.cm a G L;rw[m]at B C O D Q E hs;obtain⟨H',d,k,n⟩:=rQ B C (fun q=>absurd rfl q) D (E key st.mem) hs;exact⟨H',d,k,(st.same.trans (aX.fallF ..)).trans n⟩
    ·cases q
theorem pQ(w:Wk f t H)(hr:cI f t H)(n:Mem f.n H (aB f t) key)(b:bU f t H key=some g):∃H',Wk g t H'/\cI g t H'/\aX f g:=by
 unfold bU at b;cases a:shadow f (.root t)with
 | none=>rw[a]at b;cases b
 | some gr=>
  obtain⟨g1,r⟩:=gr;rw[a]at b;simp only at b;obtain⟨w1,S,Y,z,Z,a4,A,B⟩:=w.ak a;have V:Mem g1.n H r key:=by
   unfold shadow at a;have K:bK f (.root t)=aB f t:=rfl;rw[K]at a;by_cases s:own f (aB f t)
   ·rw[if_pos s]at a;cases a;exact n
   ·rw[if_neg s]at a
    by_cases m:aF f=0
    ·rw[if_pos m]at a;cases a
    ·rw[if_neg m]at a
     simp only[sJ,Prod.mk.injEq]at a;obtain⟨P,W⟩:=a;obtain⟨N,O,u,_⟩:=aO m;obtain⟨d,p⟩:=w.ic.ao (aP w.tl);have j:f.n (aB f t)=some d:=p;obtain⟨X,y,_⟩:=w.ic.shadow (L:=.root t) w.tl rfl p N O u;have G:f.n (aF f)=none:=(w.ic.a8.dead _).2 u;have v:g1.n=if cu f (aB f t)=1 then upd (upd f.n (aF f) (some d)) (aB f t) none else upd f.n (aF f) (some d):=by rw[<-P];exact y
     let U:Nat->Prop:=fun x=>(∃d,f.n x=some d)/\(cu f (aB f t)=1->x≠aB f t)
     have Q:∀x d,U x->f.n x=some d->∀c∈kids d,U c:=fun x d' _ i c h=>
      ⟨w.ic.af i h,fun l e=>(w.ic.a2 (aP w.tl) l).2 x d' i (by have:c=(f.r.getD t (0,0)).2.toNat:=e;rw[<-this];exact h)⟩
     have I:∀x,U x->g1.n x=f.n x:=fun x ⟨⟨d',i⟩,l⟩=>by
      have o:x≠aF f:=fun e=>by rw[e,G]at i;cases i
      rw[v];split
      ·rename_i T;rw[aC _ _ (l T),aC _ _ o]
      ·rw[aC _ _ o]
     have R:g1.n r=some d:=by rw[z];exact j
     rw[bX R];rw[bX j]at n;obtain⟨k,F⟩:=d;exact n.more (fun e J=>J) fun c h h' M=>Mem.frame Q I _ _ ⟨w.ic.af j h,fun _ e=>w.ic.ag j (e▸h)⟩ M
  obtain⟨H',C,D,E⟩:=rQ w1 S (fun q=>absurd rfl q) (A hr) V b;exact⟨H',C,D,B.trans E⟩
def dec(f:fZ)(b:Nat):fZ:={f with c:=f.c.set b (cu f b-1)}
def delN(f:fZ)(b:Nat):fZ:={f with n:=upd f.n b none}
def unname:Nat->fZ->Nat->fZ×Int
 | 0,f,b=>if 0<cu f b-1 then(dec f b,0)else(delN (dec f b) b,1)
 | h+1,f,b=>if 0<cu f b-1 then(dec f b,0)else
  let r:=(bZ (f.n b)).foldl (fun a k=>((unname h a.1 k).1,a.2+(unname h a.1 k).2)) (dec f b,1)
  (delN r.1 b,r.2)
def unL(h:Nat)(l:List Nat)(a:fZ×Int):fZ×Int:=l.foldl (fun a k=>((unname h a.1 k).1,a.2+(unname h a.1 k).2)) a
theorem lS(h k:Nat)(l:List Nat)(a:fZ×Int):unL h (k :: l) a=unL h l ((unname h a.1 k).1,a.2+(unname h a.1 k).2):=rfl
def rG:Nat->fZ->Nat->Prop
 | 0,f,b=>b<f.c.length/\∃d,f.n b=some d/\(cu f b-1<=0->kids d=[])
 | h+1,f,b=>b<f.c.length/\∃d,f.n b=some d/\(cu f b-1<=0->∀l k m,kids d=l++k :: m->rG h (unL h l (dec f b,1)).1 k)
structure Ab(f g:fZ)(A:Nat->Prop):Prop where
 c:f.c=g.c
 r:f.r=g.r
 off:∀x,¬A x->f.n x=g.n x
 on:∀x,A x->g.n x=none
 rest:f.m=g.m/\f.next=g.next/\f.gen=g.gen/\f.table=g.table
def fK(nodes:Nat->Option Nd)(n:Nat):Nat:=cY n fun x=>if(nodes x).isSome then 1 else 0
theorem sX{nodes:Nat->Option Nd}{n:Nat}(a:b<n)(hd:nodes b=some d):fK (upd nodes b none) n+1=fK nodes n:=by
 have:=mF (n:=n) (g:=fun x=>if(nodes x).isSome then 1 else 0) (g':=fun x=>if(upd nodes b none x).isSome then 1 else 0) a (fun y c=>by simp only[aC _ _ c])
 simp only[aD,hd,Option.isSome_some,Option.isSome_none,if_true]at this;unfold fK;simpa using this
theorem nP(h:Ab f g A)(x:Nat):cu f x=cu g x:=by unfold cu;rw[h.c]
structure Un(h:Nat)(f g:fZ)(A:Nat->Prop)(ht:Nat->Nat)(l:List Nat)(E:Nat->Nat)(r:fZ×Int)(n0:Int):Prop where
 ex:∃g',Ab r.1 g' A/\IP g' ht/\(∀x,x<g'.c.length->df g' x=((E x-l.count x:Nat):Int))/\g'.c.length=g.c.length/\(∀x,g'.n x=g.n x\/g'.n x=none)/\r.2=n0+((fK g.n g.c.length:Int) -(fK g'.n g.c.length:Int))/\g'.r=g.r/\g'.m=g.m/\g'.next=g.next/\g'.gen=g.gen/\g'.table=g.table
theorem aCZ(one_ok:∀{f g:fZ} {A:Nat->Prop} {ht:Nat->Nat} {E:Nat->Nat} {b:Nat},Ab f g A->IP g ht->(∀x,x<g.c.length->df g x=(E x:Int))->b<g.c.length->1<=E b->ht b=h->rG h f b/\Un h f g A ht [b] E (unname h f b) 0):
  ∀(l:List Nat) {f g:fZ} {A:Nat->Prop} {ht:Nat->Nat} {E:Nat->Nat} (n0:Int),Ab f g A->IP g ht->(∀x,x<g.c.length->df g x=(E x:Int))->(∀b∈l,b<g.c.length/\ht b=h)->(∀x,l.count x<=E x)->
   (∀l1 k m,l=l1++k :: m->rG h (unL h l1 (f,n0)).1 k)/\Un h f g A ht l E (unL h l (f,n0)) n0
 | [],f,g,A,ht,E,n0,j,t,p,s,r=>⟨fun l1 k m e=>by simp at e,⟨g,j,t,fun x a=>by simpa using p x a,rfl,fun _=>.inl rfl,by simp[unL],rfl,rfl,rfl,rfl,rfl⟩⟩
 | b :: l,f,g,A,ht,E,n0,j,t,p,s,r=>by
  have v:=s b List.mem_cons_self;have w:1<=E b:=by have:=r b;rw[List.count_cons]at this;simp at this;omega
  obtain⟨U,⟨g',z,B,C,i,D,F,G,H,I,c,d⟩⟩:=one_ok j t p v.1 w v.2;have S:∀x,([b]:List Nat).count x=one b x:=fun x=>by simp only[List.count_cons,List.count_nil,beq_iff_eq,one];omega
  have u:∀x,(b :: l).count x=l.count x+one b x:=fun x=>by simp only[List.count_cons,beq_iff_eq,one]
  obtain⟨r1,⟨T,J,K,L,M,N,O,P,Q,R,n,o⟩⟩:=aCZ one_ok l (E:=fun x=>E x-one b x) (n0+(unname h f b).2) z B (fun x a=>by rw[C x a,S]) (fun x a=>by rw[i];exact s x (List.mem_cons_of_mem _ a)) (fun x=>by have:=r x;rw[u]at this;omega);refine⟨fun l1 k m e=>?_,⟨T,?_,K,fun x a=>?_,M.trans i,fun x=>?_,?_,P.trans G,Q.trans H,R.trans I,n.trans c,o.trans d⟩⟩
  ·cases l1 with
   | nil=>simp only[List.nil_append,List.cons.injEq]at e;rw[<-e.1];exact U
   | cons y l1=>
    simp only[List.cons_append,List.cons.injEq]at e;obtain⟨rfl,e⟩:=e;rw[lS];exact r1 l1 k m e
  ·rw[lS];exact J
  ·rw[L x a,u];congr 1;omega
  ·rcases N x with q | q
   ·rw[q];exact D x
   ·exact .inr q
  ·rw[lS,O,F,i];omega
theorem IP.ep(h:IP g ht)(d:b<g.c.length)(h2:1<cu g b):IP (dec g b) ht:=by
 have a:(dec g b).c.length=g.c.length:=by simp[dec]
 have c:∀x,cu (dec g b) x=if b=x then cu g b-1 else cu g x:=fun x=>fH g b x _ d;refine⟨by rw[a];exact h.n8,by rw[a];exact h.al,by rw[a];exact h.len,⟨fun x=>?_,fun x=>?_⟩,h.two,?_,?_,h.ht⟩
 ·rw[c];split
  ·rename_i e;subst e
   have:=h.a8.dead b
   constructor
   ·intro q;have:=this.1 q;omega
   ·intro q;omega
  ·exact h.a8.dead x
 ·rw[c];have:=h.a8.pos x;split<;>omega
 ·intro r f;rw[a];exact h.rb r f
 ·intro x e i;rw[a];exact h.kb x e i
theorem aNJ(a:b<g.c.length)(x:Nat):df (dec g b) x=df g x -(one b x:Int):=by
 have d:(dec g b).c.length=g.c.length:=by simp[dec]
 have c:cu (dec g b) x=if b=x then cu g b-1 else cu g x:=fH g b x _ a;unfold df;rw[d,c];show _ -((rc g.r x+deg g.n g.c.length x:Nat):Int)=_
 by_cases e:b=x
 ·subst e;rw[if_pos rfl,cF];omega
 ·rw[if_neg e,fX e];omega
theorem kL(a:Ab f g A)(l:IP g ht)(k:∀x,x<g.c.length->df g x=(E x:Int))(c:b<g.c.length)(r:1<=E b):
  ∃d,g.n b=some d/\¬A b/\f.n b=some d/\(0<cu g b-1->Un h f g A ht [b] E (dec f b,0) 0):=by
 have n:=k b c;have o:∃d,g.n b=some d:=by
  cases e:g.n b with
  | some d=>exact⟨d,rfl⟩
  | none=>have:=(l.a8.dead b).1 e;unfold df at n;omega
 obtain⟨d,i⟩:=o;have j:¬A b:=fun q=>by have:=a.on b q;rw[i]at this;cases this
 refine⟨d,i,j,(a.off b j).trans i,fun s=>⟨dec g b,⟨?_,a.r,a.off,a.on,a.rest⟩,l.ep c (by omega),fun x p=>?_,by simp[dec],fun _=>.inl rfl,?_,rfl,rfl,rfl,rfl,rfl⟩⟩
 ·show f.c.set b _=g.c.set b _;rw[nP a b,a.c]
 ·have m:x<g.c.length:=by simpa [dec] using p
  rw[aNJ c,k x m];simp only[List.count_nil,List.count_cons,beq_iff_eq,one];by_cases e:b=x
  ·subst e;simp;omega
  ·simp[e]
 ·show(0:Int)=0+_
  have e:(dec g b).n=g.n:=rfl;rw[e];omega
theorem lU(a:Ab f g A)(k:IP g ht)(i:∀x,x<g.c.length->df g x=(E x:Int))(h:b<g.c.length)(l:1<=E b)(hd:g.n b=some d)(hc:¬0<cu g b-1):
  Ab (dec f b) (freeB g b) (fun x=>A x\/x=b)/\IP (freeB g b) ht/\(∀x,x<g.c.length->df (freeB g b) x=(((E x-one b x)+(kids d).count x:Nat):Int))/\cu g b=1:=by
 have j:=i b h;have c1:cu g b=1:=by unfold df at j;omega
 refine⟨⟨?_,a.r,fun x c=>?_,fun x c=>?_,a.rest⟩,k.freeB h,fun x c=>?_,c1⟩
 ·show f.c.set b _=g.c.set b _;rw[nP a b,a.c,c1];rfl
 ·show f.n x=upd g.n b none x
  rw[aC _ _ (fun e=>c (.inr e))];exact a.off x fun q=>c (.inl q)
 ·show upd g.n b none x=none
  by_cases e:x=b
  ·rw[e,aD]
  ·rw[aC _ _ e];exact a.on x (c.resolve_right e)
 ·rw[rU h hd c1,i x c]
  by_cases e:b=x
  ·subst e;rw[cF];omega
  ·rw[fX e];omega
theorem wG:∀{h:Nat} {f g:fZ} {A:Nat->Prop} {ht:Nat->Nat} {E:Nat->Nat} {b:Nat},Ab f g A->IP g ht->(∀x,x<g.c.length->df g x=(E x:Int))->b<g.c.length->1<=E b->ht b=h->
  rG h f b/\Un h f g A ht [b] E (unname h f b) 0:=by
 intro h;induction h with
 | zero=>
  intro f g A ht E b i p u n s T;obtain⟨d,o,U,v,dec_case⟩:=kL i p u n s;have H:kids d=[]:=by
   refine List.eq_nil_iff_forall_not_mem.2 fun c j=>?_;rcases p.ht b d o with⟨q,_⟩ | ⟨_,q⟩
   ·simp[kids,q]at j
   ·have:=q c j;omega
  refine⟨⟨by rw[i.c];exact n,d,v,fun _=>H⟩,?_⟩;unfold unname;rw[nP i b];by_cases j:0<cu g b-1
  ·rw[if_pos j];exact dec_case j
  ·rw[if_neg j]
   obtain⟨r,C,D,S⟩:=lU i p u n s o j;refine⟨freeB g b,⟨r.c,r.r,fun x a=>?_,fun x a=>r.on x (.inl a),r.rest⟩,C,fun x a=>?_,by simp[freeB],fun x=>?_,?_,rfl,rfl,rfl,rfl,rfl⟩
   ·show upd f.n b none x=upd g.n b none x
    by_cases e:x=b
    ·subst e;rw[aD,aD]
    ·rw[aC _ _ e,aC _ _ e];exact i.off x a
   ·have R:x<g.c.length:=by simpa [freeB] using a
    rw[D x R,H];simp only[List.count_nil,List.count_cons,beq_iff_eq,one];congr 1;omega
   ·by_cases e:x=b
    ·exact .inr (by show upd g.n b none x=none;rw[e,aD])
    ·exact .inl (aC _ _ e)
   ·show(1:Int)=_
    have:=sX n o
    have e:(freeB g b).n=upd g.n b none:=rfl;rw[e];omega
 | succ h ih=>
  intro f g A ht E b i p u n s T;obtain⟨d,o,U,v,dec_case⟩:=kL i p u n s;by_cases j:0<cu g b-1
  ·refine⟨⟨by rw[i.c];exact n,d,v,fun q=>by rw[nP i b]at q;omega⟩,?_⟩
   unfold unname;rw[nP i b,if_pos j];exact dec_case j
  ·obtain⟨r,C,D,S⟩:=lU i p u n s o j
   have w:(freeB g b).c.length=g.c.length:=by simp[freeB]
   have I:∀x,x <(freeB g b).c.length->df (freeB g b) x=(((E x-one b x)+(kids d).count x:Nat):Int):=fun x a=>D x (by rw[w]at a;exact a);obtain⟨r1,⟨F,t,J,K,L,G,M,N,O,P,y,z⟩⟩:=aCZ ih (kids d) (E:=fun x=>(E x-one b x)+(kids d).count x) 1 r C I (fun c B=>⟨by rw[w];exact(p.kb b d o).du B,by
    rcases p.ht b d o with⟨q,_⟩ | ⟨_,q⟩
    ·simp[kids,q]at B
    ·have:=q c B;omega⟩) (fun x=>by omega)
   refine⟨⟨by rw[i.c];exact n,d,v,fun _ l k m e=>r1 l k m e⟩,?_⟩;unfold unname;rw[nP i b,if_neg j,v];have Q:F.n b=none:=by
    rcases G b with q | q
    ·rw[q];exact aD _ _ _
    ·exact q
   refine⟨F,⟨t.c,t.r,fun x a=>?_,fun x a=>t.on x (.inl a),t.rest⟩,J,fun x a=>?_,L.trans w,fun x=>?_,?_,N,O,P,y,z⟩
   ·show upd (unL h (kids d) (dec f b,1)).1.n b none x=F.n x
    by_cases e:x=b
    ·subst e;rw[aD,Q]
    ·rw[aC _ _ e];exact t.off x fun q=>by rcases q with q | q;exact a q;exact e q
   ·rw[K x a]
    simp only[List.count_nil,List.count_cons,beq_iff_eq,one];congr 1;omega
   ·rcases G x with q | q
    ·rw[q]
     by_cases e:x=b
     ·exact .inr (by rw[e];exact aD _ _ _)
     ·exact .inl (aC _ _ e)
    ·exact .inr q
   ·show(unL h (kids d) (dec f b,1)).2=_
    rw[M,w];have:=sX n o;have e:(freeB g b).n=upd g.n b none:=rfl;rw[e];omega
