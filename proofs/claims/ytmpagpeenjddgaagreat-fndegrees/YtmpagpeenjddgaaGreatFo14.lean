import Derived.Test.YtmpagpeenjddgaaGreatFo9
set_option linter.all false
namespace Go.Proofs.YtmpagpeenjddgaaGreat.Fo
variable{key val:ByteArray}{k:Int}{es es' les res:List E3}{P:List Nat}{H a b c h m t:Nat}{nodes nodes':Nat->Option Nd}{d:Nd}{hi lo:OB}{f g:fZ}
theorem Ok.low(hd:nodes b=some (k,es))(f:Ok nodes h b lo hi):Ok nodes h b (some (ky es 0)) hi:=by
 have g:∀{es:List E3},eE es lo hi->eE es (some (ky es 0)) hi:=fun {es} e=>by
  refine⟨e.a6,fun j i=>?_,e.hi,e.bz⟩;cases j with
  | zero=>exact eI _
  | succ j=>exact fN (e.a6 0 (j+1) (by omega) i)
 cases h with
 | zero=>obtain⟨es',a,c,d⟩:=f;rw[hd]at a;cases a;exact⟨_,hd,g c,d⟩
 | succ h=>obtain⟨es',a,c,d⟩:=f;rw[hd]at a;cases a;exact⟨_,hd,g c,d⟩
theorem Wk.grow(w:Wk f t H)(h1:cu f (aB f t)=1)(hd:f.n (aB f t)=some (k,es)){q top:Nat}(hm:2<=m)(ik:m+2<=es.length)
  (i9:2<=q) (nu:q<f.c.length) (M:cu f q=0) (Q:2<=top) (F:top<f.c.length) (N:cu f top=0) (O:top≠q):
  let f':=growF f t (aB f t) k es m q top (ky es 0) (ky es m)
  Wk f' t (H+1)/\aO f' t (H+1) [] top (H+1) none none/\aB f' t=top/\cJ f' t (H+1)/\f'.n top=some (2,[(ky es 0,.empty,(aB f t:Int)),(ky es m,.empty,(q:Int))]):=by
 intro f';obtain⟨S,s⟩:=w.ic.grow (t:=t) (r:=aB f t) (m:=m) (ky es 0) (ky es m) w.tl rfl hd (by omega) (by omega) i9 nu M Q F N O;have K:f.n q=none:=(w.ic.bb.dead q).2 M;have J:f.n top=none:=(w.ic.bb.dead top).2 N;have T:aB f t≠q:=fun e=>by rw[e,K]at hd;cases hd
 have Z:aB f t≠top:=fun e=>by rw[e,J]at hd;cases hd
 have ho:=w.ic.aD (aQ w.tl) h1;have o:aB f' t=top:=by
  show((f.r.set t _).getD t (0,0)).2.toNat=top
  simp[gD,w.tl]
 have I:∀u,u≠t->aB f' u=aB f u:=fun u b=>by
  show((f.r.set t _).getD u (0,0)).2.toNat=_
  unfold aB;simp only[gD,List.getElem?_set,if_neg (Ne.symm b)]
 have a:f'.n top=some (2,[(ky es 0,.empty,(aB f t:Int)),(ky es m,.empty,(q:Int))]):=by rw[s,aE]
 have nq:f'.n q=some (k,es.drop m):=by rw[s,aC _ _ (Ne.symm O),aE]
 have B:f'.n (aB f t)=some (k,es.take m):=by rw[s,aC _ _ Z,aC _ _ T];exact aE _ _ _
 let U:Nat->Prop:=fun x=>(∃d,f.n x=some d)/\x≠aB f t
 have mn:∀x d,U x->f.n x=some d->∀c∈kids d,U c:=fun x d' _ g c n=>
  ⟨w.ic.af g n,fun e=>ho.2 x d' g (by have:c=(f.r.getD t (0,0)).2.toNat:=e;rw[<-this];exact n)⟩
 have y:∀x,U x->f'.n x=f.n x:=fun x ⟨⟨d',g⟩,h1⟩=>by
  have R:x≠q:=fun e=>by rw[e,K]at g;cases g
  have X:x≠top:=fun e=>by rw[e,J]at g;cases g
  rw[s,aC _ _ X,aC _ _ R];exact aC _ _ h1
 have L:=Ok.frame mn y;have P:∀c∈kids (k,es),∀z lo' hi',Ok f.n z c lo' hi'->Ok f'.n z c lo' hi'/\sz f'.n c=sz f.n c:=fun c n z lo' hi' hk=>by
  have E:U c:=⟨w.ic.af hd n,fun e=>w.ic.ag hd (e▸n)⟩;exact⟨L _ _ _ _ E hk,by unfold sz;rw[y c E]⟩
 have D:Ok f'.n H (aB f t) (some (ky es 0)) (some (ky es m)):=by
  have:=Ok.low B (Ok.ct hd w.ok (by omega) (by omega) B P)
  rw[eN (by omega)]at this;exact this
 have C:Ok f'.n H q (some (ky es m)) none:=Ok.cg hd w.ok (by omega) nq P;have hs:Srt es:=by
  obtain⟨d,d1,_,_,Y,_⟩:=w.ok.ba;rw[hd]at d1;cases d1;exact Y
 have V:sz f'.n (aB f t)=m:=by unfold sz;rw[B];exact len_take' (by omega)
 have W:sz f'.n q=es.length-m:=by unfold sz;rw[nq];exact List.length_drop
 refine⟨⟨S,by show t <(f.r.set t _).length;simpa using w.tl,?_,fun u b p=>?_⟩,?_,o,?_,a⟩
 ·rw[o]
  refine⟨_,a,⟨?_,fun _ _=>trivial,fun _ _=>trivial,by simp⟩,by simp,?_,?_⟩
  ·intro i j i8 hj
   simp only[List.length_cons,List.length_nil]at hj;obtain rfl:i=0:=by omega
   obtain rfl:j=1:=by omega
   exact hs 0 m (by omega) (by omega)
  ·intro i A
   simp only[List.length_cons,List.length_nil]at A;obtain rfl | rfl:i=0\/i=1:=by omega
   ·rfl
   ·rfl
  ·intro i A
   simp only[List.length_cons,List.length_nil]at A;obtain rfl | rfl:i=0\/i=1:=by omega
   ·have v:kd [(ky es 0,.empty,(aB f t:Int)),(ky es m,.empty,(q:Int))] 0=aB f t:=by simp[kd,ch]
    rw[v];exact⟨by rw[V];exact hm,D⟩
   ·have v:kd [(ky es 0,.empty,(aB f t:Int)),(ky es m,.empty,(q:Int))] 1=q:=by simp[kd,ch]
    rw[v];exact⟨by rw[W];omega,C⟩
 ·have b:u<f.r.length:=by have:u <(f.r.set t _).length:=b;simpa using this
  obtain⟨h,g1,l⟩:=w.ee u b p;have G:U (aB f u):=⟨w.ic.ao (aQ b),nC w.ic w.tl b p h1⟩;refine⟨h,by rw[I u p];exact L _ _ _ _ G g1,?_⟩;rcases l with l | l
  ·exact .inl l
  ·refine .inr ?_
   unfold sz at l |-;rw[I u p,y _ G];exact l
 ·have:=aO.here (f:=f') (t:=t) (H:=H+1) (by
   rw[o];exact(dW (f:=takeAt (setN f (aB f t) (k,es.take m)) q (k,es.drop m)) (2,[(ky es 0,.empty,(aB f t:Int)),(ky es m,.empty,(q:Int))]) (by simpa [takeAt,setN] using F) top).trans (if_pos rfl))
  rw[o]at this;exact this
 ·refine .inr ?_
  rw[o];unfold sz;rw[a];simp
def fM(es:List E3)(key:ByteArray):Bool:=decide (cLt es key<es.length) && (ky es (cLt es key)).toList == key.toList
theorem dK(es:List E3)(key:ByteArray):fM es key=true↔cLt es key<es.length/\ky es (cLt es key)=key:=by
 unfold fM;rw[Bool.and_eq_true,decide_eq_true_eq,beq_iff_eq];exact⟨fun⟨a,b⟩=>⟨a,gV b⟩,fun⟨a,b⟩=>⟨a,by rw[b]⟩⟩
def putE(es:List E3)(key val:ByteArray):List E3:=
 if fM es key=true then es.set (cLt es key) ((es.getD (cLt es key) e0).1,val,(es.getD (cLt es key) e0).2.2)else insE es (cLt es key) (key,val,0)
theorem aAE(es:List E3)(key val:ByteArray):(putE es key val).length=if fM es key=true then es.length else es.length+1:=by
 unfold putE;split
 ·simp
 ·exact iT _ _ _
theorem aGH(h:eE es lo hi)(w:es.length<5)(key val:ByteArray)(t:loR lo key)(s:hiR hi key):eE (putE es key val) lo hi:=by
 have r:=kT es key;unfold putE;split
 ·rename_i f
  obtain⟨u,x⟩:=(dK es key).1 f;have b:∀j,ky (es.set (cLt es key) ((es.getD (cLt es key) e0).1,val,(es.getD (cLt es key) e0).2.2)) j=ky es j:=fun j=>by
   unfold ky;rw[bF _ _ _ _ _ u];by_cases e:j=cLt es key
   ·rw[if_pos e,e]
   ·rw[if_neg e]
  refine⟨fun i j g a=>?_,fun j a=>?_,fun j a=>?_,by simpa using h.bz⟩
  ·rw[b,b];exact h.a6 i j g (by simpa using a)
  ·rw[b];exact h.lo j (by simpa using a)
  ·rw[b];exact h.hi j (by simpa using a)
 ·rename_i f
  have b:=aED (es:=es) r (key,val,0);have k:∀j,j<cLt es key->kl (ky es j) key=true:=fun j a=>(gZ h.a6 key (by omega)).2 a;have d:∀j,cLt es key<=j->j<es.length->kl key (ky es j)=true:=fun j a l=>by
   have v:∀j,cLt es key<=j->j<es.length->kl (ky es j) key=false:=fun j a l=>by
    cases e:kl (ky es j) key with
    | false=>rfl
    | true=>have:=(gZ h.a6 key l).1 e;omega
   have p:kl key (ky es (cLt es key))=true:=by
    rcases lF (v (cLt es key) (nR _) (by omega))with q | q
    ·exact absurd ((dK es key).2 ⟨by omega,q⟩) f
    ·exact q
   by_cases e:j=cLt es key
   ·rw[e];exact p
   ·exact kM p (h.a6 _ _ (by omega) l)
  refine⟨fun i j g a=>?_,fun j a=>?_,fun j a=>?_,by rw[iT];omega⟩
  ·rw[iT]at a
   rw[b,b];by_cases c:i<cLt es key
   ·rw[if_pos c]
    by_cases n:j<cLt es key
    ·rw[if_pos n];exact h.a6 i j g (by omega)
    ·rw[if_neg n]
     by_cases o:j=cLt es key
     ·rw[if_pos o];exact k i c
     ·rw[if_neg o];exact h.a6 i (j-1) (by omega) (by omega)
   ·rw[if_neg c,if_neg (show ¬j<cLt es key by omega),if_neg (show ¬j=cLt es key by omega)]
    by_cases m:i=cLt es key
    ·rw[if_pos m];exact d _ (by omega) (by omega)
    ·rw[if_neg m];exact h.a6 _ _ (by omega) (by omega)
  ·rw[iT]at a
   rw[b];split
   ·exact h.lo j (by omega)
   ·split
    ·exact t
    ·exact h.lo _ (by omega)
  ·rw[iT]at a
   rw[b];split
   ·exact h.hi j (by omega)
   ·split
    ·exact s
    ·exact h.hi _ (by omega)
theorem Wk.leaf(w:Wk f t H)(p:aO f t H P b 0 lo hi)(h:f.n b=some (1,es))(hn:eE es' lo hi)(hc:∀i,i<es'.length->(es'.getD i e0).2.2=0)(o:P≠[]->2<=es'.length):
  Wk (setN f b (1,es')) t H/\(cJ f t H->cJ (setN f b (1,es')) t H):=by
 have k:IC (setN f b (1,es')):=w.ic.keys h (by simp[aJJ]) fun q=>by simp at q
 have g:(setN f b (1,es')).n b=some (1,es'):=aE _ _ _;have j:∀x,x≠b->(setN f b (1,es')).n x=f.n x:=fun x c=>aC _ _ c;refine⟨w.step p k rfl h (fun _=>False) (fun _ q=>q.elim) (fun x d c r _=>by rw[j x r];exact c) ⟨es',g,hn,hc⟩ (fun a=>by unfold sz;rw[g];exact o a),fun m=>?_⟩;refine p.rt rfl (fun y n=>j y fun e=>?_) (fun s a=>?_) m
 ·obtain⟨u,l⟩:=w.ic.ht
  have:=p.high l y n;rw[e]at this;omega
 ·rcases p.top with⟨_,_,q⟩ | ⟨q,_⟩
  ·omega
  ·rw[a]at q;cases q
def aG(f:fZ):Nat:=((List.range f.c.length).find? fun b=>decide (2<=b) && (cu f b == 0) && (co f b == 0)).getD 0
theorem aP(h:aG f≠0):2<=aG f/\aG f<f.c.length/\cu f (aG f)=0/\co f (aG f)=0:=by
 unfold aG at h |-;cases e:(List.range f.c.length).find? fun b=>decide (2<=b) && (cu f b == 0) && (co f b == 0)with
 | none=>rw[e]at h;exact absurd rfl h
 | some q=>
  have a:=List.find?_some e;have c:=List.mem_of_find?_eq_some e;simp only[Bool.and_eq_true,decide_eq_true_eq,beq_iff_eq]at a;simp only[Option.getD_some];exact⟨a.1.1,by simpa using c,a.1.2,a.2⟩
structure aZ(f f':fZ):Prop where
 next:f'.next=f.next
 gen:f'.gen=f.gen
 m:f'.m=f.m
 table:f'.table=f.table
 c:f'.c.length=f.c.length
 ids:f'.r.map Prod.fst=f.r.map Prod.fst
theorem aZ.refl(f:fZ):aZ f f:=⟨rfl,rfl,rfl,rfl,rfl,rfl⟩
theorem aZ.trans{k:fZ}(a:aZ f g)(b:aZ g k):aZ f k:=
 ⟨b.next.trans a.next,b.gen.trans a.gen,b.m.trans a.m,b.table.trans a.table,b.c.trans a.c,b.ids.trans a.ids⟩
theorem aZ.setN(f:fZ)(b:Nat)(d:Nd):aZ f (setN f b d):=⟨rfl,rfl,rfl,rfl,rfl,rfl⟩
theorem aZ.takeAt(f:fZ)(b:Nat)(d:Nd):aZ f (takeAt f b d):=⟨rfl,rfl,rfl,rfl,by simp[Fo.takeAt],rfl⟩
theorem aZ.freeB(f:fZ)(b:Nat):aZ f (freeB f b):=⟨rfl,rfl,rfl,rfl,by simp[Fo.freeB],rfl⟩
theorem aZ.letGo(f:fZ)(b:Nat):aZ f (letGo f b):=by
 refine⟨?_,?_,lY f b,?_,iI f b,by rw[dY]⟩<;>(unfold Fo.letGo;split<;>rfl)
theorem aZ.setL(f:fZ)(L:Loc)(q:Nat):aZ f (setL f L q):=by
 cases L with
 | inr c=>obtain⟨b,i⟩:=c;exact aZ.setN f b _
 | inl t=>
  refine⟨rfl,rfl,rfl,rfl,rfl,?_⟩;show(f.r.set t _).map Prod.fst=_
  rw[List.map_set];refine List.ext_getElem? fun j=>?_;rw[List.getElem?_set];split
  ·rename_i h;subst h
   by_cases a:t<f.r.length
   ·simp[gD,a]
   ·simp[a]
  ·rfl
theorem aZ.shadowAt(f:fZ)(L:Loc)(q:Nat):aZ f (shadowAt f L q):=((aZ.takeAt f q _).trans (aZ.setL _ L q)).trans (aZ.letGo _ _)
theorem aZ.splitF(f:fZ)(p:Nat)(d:List E3)(a c:Nat)(k:Int)(b:List E3)(m q:Nat)(key:ByteArray):aZ f (splitF f p d a c k b m q key):=((aZ.setN f _ _).trans (aZ.takeAt _ _ _)).trans (aZ.setN _ _ _)
theorem aZ.growF(f:fZ)(t r:Nat)(k:Int)(es:List E3)(m q a:Nat)(b c:ByteArray):aZ f (growF f t r k es m q a b c):=(((aZ.setN f _ _).trans (aZ.takeAt _ _ _)).trans (aZ.takeAt _ _ _)).trans (aZ.setL _ _ _)
theorem aZ.mergeF(f:fZ)(p c s:Nat)(k:Int)(a b:List E3):aZ f (mergeF f p c s k a b):=((aZ.setN f _ _).trans (aZ.setN _ _ _)).trans (aZ.letGo _ _)
theorem aZ.moveF(f:fZ)(p c s:Nat)(k:Int)(a d b:List E3):aZ f (moveF f p c s k a d b):=((aZ.setN f _ _).trans (aZ.setN _ _ _)).trans (aZ.setN _ _ _)
theorem aZ.fallF(f:fZ)(t r c:Nat):aZ f (fallF f t r c):=(aZ.freeB f r).trans (aZ.setL _ _ _)
theorem aZ.len{f':fZ}(h:aZ f f'):f'.r.length=f.r.length:=by simpa using congrArg List.length h.ids
abbrev own(f:fZ)(b:Nat):Prop:=cu f b=1/\co f b=0
def shadow(f:fZ)(L:Loc):Option (fZ×Nat):=
 if own f (bN f L)then some (f,bN f L)else if aG f=0 then none else some (shadowAt f L (aG f),aG f)
def stepDown(f:fZ)(b:Nat)(key:ByteArray):Option (fZ×Nat):=
 match shadow (setN f b (2,lowK (look f b).2 key)) (.ai b (bL (lowK (look f b).2 key) key))with
 | none=>none
 | some (g,c)=>
  if(look g c).2.length=5 then
   if aG g=0 then none else
    some (splitF g b (look g b).2 (bL (lowK (look f b).2 key) key) c (look g c).1 (look g c).2 3 (aG g) (ky (look g c).2 3),if kl key (ky (look g c).2 3)=true then c else aG g)
  else some (g,c)
def putAt:Nat->fZ->Nat->ByteArray->ByteArray->Option (fZ×Bool)
 | 0,f,b,key,val=>some (setN f b (1,putE (look f b).2 key val),fM (look f b).2 key)
 | h+1,f,b,key,val=>match stepDown f b key with
  | none=>none
  | some (g,c)=>putAt h g c key val
def bO(f:fZ)(t r:Nat):Option (fZ×Nat):=
 if aG f=0 then none else
 if aG (takeAt (setN f r ((look f r).1,(look f r).2.take 3)) (aG f) ((look f r).1,(look f r).2.drop 3))=0 then none else
  some (growF f t r (look f r).1 (look f r).2 3 (aG f) (aG (takeAt (setN f r ((look f r).1,(look f r).2.take 3)) (aG f) ((look f r).1,(look f r).2.drop 3))) (ky (look f r).2 0) (ky (look f r).2 3),
   aG (takeAt (setN f r ((look f r).1,(look f r).2.take 3)) (aG f) ((look f r).1,(look f r).2.drop 3)))
def put(f:fZ)(t H:Nat)(key val:ByteArray):Option (fZ×Bool):=
 match shadow f (.root t)with
 | none=>none
 | some (g,r)=>
  if(look g r).2.length=5 then
   match bO g t r with
   | none=>none
   | some (k,top)=>putAt (H+1) k top key val
  else putAt H g r key val
theorem Wk.aj(w:Wk f t H)(p:aO f t H P b (h+1) lo hi)(k:f.n b=some (2,es)){i:Nat}(hi':i<es.length)(a:shadow f (.ai b i)=some (g,c)):
  Wk g t H/\aO g t H P b (h+1) lo hi/\aO g t H (b :: P) c h (some (ky es i)) (nxt es i hi)/\(∃es',g.n b=some (2,es')/\es'.length=es.length/\(∀j,ky es' j=ky es j)/\kd es' i=c)/\g.n c=f.n (kd es i)/\cu g c=1/\co g c=0/\(cJ f t H->cJ g t H)/\aZ f g:=by
 have z:bN f (.ai b i)=kd es i:=by simp only[bN,aF k];rfl
 unfold shadow at a;rw[z]at a;by_cases l:own f (kd es i)
 ·rw[if_pos l]at a;cases a
  exact⟨w,p,aO.down p k hi' l.1,⟨es,k,rfl,fun _=>rfl,rfl⟩,rfl,l.1,l.2,id,aZ.refl _⟩
 ·rw[if_neg l]at a
  by_cases m:aG f=0
  ·rw[if_pos m]at a;cases a
  ·rw[if_neg m]at a;cases a
   obtain⟨A,B,C,D⟩:=aP m;obtain⟨d,n⟩:=w.ic.af k (aR hi');obtain⟨o,q,r,s,u,v,x,E,y⟩:=w.cq p k hi' n A B C;refine⟨o,q,r,⟨_,s,by simp,fun j=>?_,?_⟩,by rw[u,n],v,?_,y,aZ.shadowAt f _ _⟩
   ·simp only[ky];rw[bF _ _ _ _ _ hi']
    by_cases e:j=i
    ·rw[if_pos e,e]
    ·rw[if_neg e]
   ·simp only[kd];rw[bF _ _ _ _ _ hi',if_pos rfl];simp[ch]
   ·unfold co;rw[x];exact D
theorem Wk.ak(w:Wk f t H){r:Nat}(a:shadow f (.root t)=some (g,r)):
  Wk g t H/\aO g t H [] r H none none/\aB g t=r/\g.n r=f.n (aB f t)/\cu g r=1/\co g r=0/\(cJ f t H->cJ g t H)/\aZ f g:=by
 have o:bN f (.root t)=aB f t:=rfl;unfold shadow at a;rw[o]at a;by_cases b:own f (aB f t)
 ·rw[if_pos b]at a;cases a
  exact⟨w,aO.here b.1,rfl,rfl,b.1,b.2,id,aZ.refl _⟩
 ·rw[if_neg b]at a
  by_cases e:aG f=0
  ·rw[if_pos e]at a;cases a
  ·rw[if_neg e]at a;cases a
   obtain⟨p,q,s,u⟩:=aP e;obtain⟨d,i⟩:=w.ic.ao (aQ w.tl);obtain⟨c,h,j,k,l,v,m⟩:=w.ca i p q s;have n:cu (shadowAt f (.root t) (aG f)) (aG f)=1:=by
    have:=(h.named c.ic c.tl (aG f) List.mem_cons_self).1;exact this
   refine⟨c,h,j,k.trans i.symm,n,?_,m,aZ.shadowAt f _ _⟩;unfold co;rw[l];exact u
theorem aO.inner(w:Wk f t H)(p:aO f t H P b (h+1) lo hi):∃es,f.n b=some (2,es)/\eE es lo hi/\es≠[]:=by
 obtain⟨es,a,c,d,_⟩:=(p.ok w.ok).1;exact⟨es,a,c,d⟩
theorem aO.leaf(w:Wk f t H)(p:aO f t H P b 0 lo hi):∃es,f.n b=some (1,es)/\eE es lo hi/\∀i,i<es.length->(es.getD i e0).2.2=0:=(p.ok w.ok).1
theorem Wk.stepDown(w:Wk f t H)(p:aO f t H P b (h+1) lo hi)(hl:loR lo key)(hh:hiR hi key)(z:sz f.n b<5)(d:stepDown f b key=some (g,c)):
  ∃P' lo' hi',Wk g t H/\aO g t H P' c h lo' hi'/\loR lo' key/\hiR hi' key/\sz g.n c<5/\(cJ f t H->cJ g t H)/\aZ f g:=by
 obtain⟨es,v,ur,J⟩:=p.inner w;have hz:es.length<5:=by unfold sz at z;rw[v]at z;exact z
 obtain⟨w1,V,r1⟩:=w.bw p v key hl;unfold Fo.stepDown at d;rw[aF v]at d;simp only at d;generalize hK:lowK es key=a at *;have L:(setN f b (2,a)).n b=some (2,a):=aE _ _ _;have K:a.length=es.length:=by rw[<-hK];exact cM es key
 have R:a≠[]:=fun e=>J (List.length_eq_zero_iff.1 (by rw[<-K,e];rfl));obtain⟨_,Z,G,_⟩:=V.inner w1;rw[L]at Z;cases Z;generalize hI:bL a key=i at *;have M:i<a.length:=by rw[<-hI];exact eJ key R
 have U:loR (some (ky a i)) key:=by
  rw[<-hI];exact aLY G.a6 key (by rw[<-hK];exact(vS es key J).1) R
 have I:hiR (nxt a i hi) key:=by
  by_cases e:i+1<a.length
  ·rw[cN _ e];exact aLX G.a6 key e (by omega)
  ·rw[eT _ e];exact hh
 cases y:shadow (setN f b (2,a)) (.ai b i)with
 | none=>rw[y]at d;cases d
 | some gc=>
  obtain⟨g1,c1⟩:=gc;rw[y]at d;simp only at d;obtain⟨u,p2,W,⟨o,N,A,O,B⟩,m5,Q,m7,C,m9⟩:=w1.aj V L M y;have F:=(aZ.setN f b (2,a)).trans m9;obtain⟨⟨k,l⟩,r⟩:=u.ic.live (x:=c1) (by rw[Q];omega);have ap:l.length<=5:=by
   obtain⟨d',d1,_,d2,_⟩:=((W.ok u.ok).1).ba;rw[r]at d1;cases d1;exact d2
  rw[aF r]at d;simp only at d;by_cases j:l.length=5
  ·rw[if_pos j]at d
   by_cases n:aG g1=0
   ·rw[if_pos n]at d;cases d
   ·rw[if_neg n,aF N]at d
    simp only at d
    obtain⟨l1,l2,l3,l4⟩:=aP n;have vt:i<o.length:=by rw[A];exact M
    obtain⟨E,p4,X,Y,n1,S,T,D⟩:=u.split p2 N (by rw[A,K];exact hz) vt (by rw[B];exact r) (by rw[B];exact Q) (m:=3) (by omega) (by omega) l1 l2 l3;rw[B]at E p4 X Y n1 S T D;simp only[sJ,Prod.mk.injEq]at d;obtain⟨rfl,rfl⟩:=d;have jt:nxt o i hi=nxt a i hi:=by unfold nxt;rw[A,O]
    by_cases s:kl key (ky l 3)=true
    ·rw[if_pos s]
     refine⟨_,_,_,E,X,by rw[O];exact U,s,?_,fun q=>D (C (r1 q)),F.trans (aZ.splitF ..)⟩;unfold sz;rw[S];simp only[List.length_take];omega
    ·rw[if_neg s]
     refine⟨_,_,_,E,Y,Bool.eq_false_iff.2 s,by rw[jt];exact I,?_,fun q=>D (C (r1 q)),F.trans (aZ.splitF ..)⟩;unfold sz;rw[T];simp only[List.length_drop];omega
  ·rw[if_neg j]at d
   simp only[sJ,Prod.mk.injEq]at d;obtain⟨rfl,rfl⟩:=d;refine⟨_,_,_,u,W,U,I,?_,fun q=>C (r1 q),F⟩;unfold sz;rw[r];simp only;omega
theorem tP:∀{h:Nat} {f:fZ} (w:Wk f t H) {P:List Nat} {b:Nat} {lo hi:OB} (p:aO f t H P b h lo hi) (hl:loR lo key) (hh:hiR hi key) (h5:sz f.n b<5) (hr:cJ f t H) {g:fZ} {th:Bool} (hs:putAt h f b key val=some (g,th)),
  Wk g t H/\cJ g t H/\aZ f g
 | 0,f,w,P,b,lo,hi,p,hl,hh,h5,hr,g,th,hs=>by
  obtain⟨es,c,q,d⟩:=p.leaf w;unfold putAt at hs;rw[aF c]at hs;simp only[sJ,Prod.mk.injEq]at hs;obtain⟨rfl,rfl⟩:=hs;have r:es.length<5:=by unfold sz at h5;rw[c]at h5;exact h5
  have m:=kT es key;obtain⟨e,j⟩:=w.leaf p c (aGH q r key val hl hh) (fun i hi'=>by
   rw[aAE]at hi';unfold putE;split
   ·rename_i a
    rw[if_pos a]at hi';rw[bF _ _ _ _ _ ((dK es key).1 a).1];split
    ·exact d _ ((dK es key).1 a).1
    ·exact d i hi'
   ·rename_i a
    rw[if_neg a]at hi';rw[jN _ _ _ _ m];split
    ·exact d i (by omega)
    ·split
     ·rfl
     ·exact d _ (by omega)) (fun o=>by
   have:=(p.ok w.ok).2 o
   unfold sz at this;rw[c]at this;simp only at this;rw[aAE];split<;>omega)
  exact⟨e,j hr,aZ.setN _ _ _⟩
 | h+1,f,w,P,b,lo,hi,p,hl,hh,h5,hr,g,th,hs=>by
  unfold putAt at hs;cases k:stepDown f b key with
  | none=>rw[k]at hs;cases hs
  | some n=>
   obtain⟨C,B⟩:=n;rw[k]at hs;obtain⟨A,lo',hi',w1,z,s,u,v,x,y⟩:=w.stepDown p hl hh h5 k;obtain⟨e,j,l⟩:=tP w1 z s u v (x hr) hs;exact⟨e,j,y.trans l⟩
theorem xO(w:Wk f t H)(hr:cJ f t H){th:Bool}(a:put f t H key val=some (g,th)):∃H',Wk g t H'/\cJ g t H'/\aZ f g:=by
 unfold put at a;cases j:shadow f (.root t)with
 | none=>rw[j]at a;cases a
 | some gr=>
  obtain⟨c,r1⟩:=gr;rw[j]at a;simp only at a;obtain⟨w1,B,D,P,u,Q,E,v⟩:=w.ak j;obtain⟨⟨k,es⟩,h⟩:=w1.ic.live (x:=r1) (by rw[u];omega);have R:es.length<=5:=by
   obtain⟨d',d1,_,d2,_⟩:=((B.ok w1.ok).1).ba;rw[h]at d1;cases d1;exact d2
  rw[aF h]at a;simp only at a;by_cases d:es.length=5
  ·rw[if_pos d]at a
   cases b:bO c t r1 with
   | none=>rw[b]at a;cases a
   | some I=>
    obtain⟨T,N⟩:=I;rw[b]at a;simp only at a;unfold bO at b;rw[aF h]at b;simp only at b;by_cases r:aG c=0
    ·rw[if_pos r]at b;cases b
    ·rw[if_neg r]at b
     generalize hT:aG (takeAt (setN c r1 (k,es.take 3)) (aG c) (k,es.drop 3))=s at *;by_cases p:s=0
     ·rw[if_pos p]at b;cases b
     ·rw[if_neg p]at b
      simp only[sJ,Prod.mk.injEq]at b;obtain⟨rfl,rfl⟩:=b;obtain⟨J,y,K,U⟩:=aP r;obtain⟨z,A,i,V⟩:=aP (hT▸p);rw[hT]at z A i;have M:∀x,cu (takeAt (setN c r1 (k,es.take 3)) (aG c) (k,es.drop 3)) x=if aG c=x then 1 else cu c x:=fun x=>dW (f:=setN c r1 (k,es.take 3)) (k,es.drop 3) y x;rw[M]at i;have C:s≠aG c:=fun e=>by rw[if_pos e.symm]at i;omega
      rw[if_neg (Ne.symm C)]at i;have q:s<c.c.length:=by simpa [takeAt,setN] using A
      subst D;obtain⟨O,L,S,F,G⟩:=w1.grow u h (m:=3) (by omega) (by omega) J y K z q i C;obtain⟨l,n,o⟩:=tP O L trivial trivial (by unfold sz;rw[G];simp) F a;exact⟨_,l,n,(v.trans (aZ.growF ..)).trans o⟩
  ·rw[if_neg d]at a
   obtain⟨l,n,o⟩:=tP w1 B trivial trivial (by unfold sz;rw[h];simp only;omega) (E hr) a;exact⟨_,l,n,v.trans o⟩
def OkN(nodes:Nat->Option Nd)(h:Nat)(d:Nd)(lo hi:OB):Prop:=match h with
 | 0=>d.1=1/\eE d.2 lo hi/\∀i,i<d.2.length->(d.2.getD i e0).2.2=0
 | h+1=>d.1=2/\eE d.2 lo hi/\d.2≠[]/\(∀i,i<d.2.length->(d.2.getD i e0).2.1=ByteArray.empty)/\
   ∀i,i<d.2.length->2<=sz nodes (kd d.2 i)/\Ok nodes h (kd d.2 i) (some (ky d.2 i)) (nxt d.2 i hi)
theorem dO(hd:nodes b=some d):Ok nodes h b lo hi↔OkN nodes h d lo hi:=by
 obtain⟨k,es⟩:=d;cases h with
 | zero=>
  constructor
  ·rintro⟨es',a,c⟩;rw[hd]at a;cases a;exact⟨rfl,c⟩
  ·rintro⟨a,c⟩;simp only at a;subst a;exact⟨es,hd,c⟩
 | succ h=>
  constructor
  ·rintro⟨es',a,c⟩;rw[hd]at a;cases a;exact⟨rfl,c⟩
  ·rintro⟨a,c⟩;simp only at a;subst a;exact⟨es,hd,c⟩
theorem OkN.node(k:OkN nodes h d lo hi):eE d.2 lo hi:=by
 cases h with
 | zero=>exact k.2.1
 | succ h=>exact k.2.1
theorem OkN.kids(k:OkN nodes h d lo hi)(n:∀c∈kids d,∀h' lo' hi',Ok nodes h' c lo' hi'->Ok nodes' h' c lo' hi'/\sz nodes' c=sz nodes c):OkN nodes' h d lo hi:=by
 cases h with
 | zero=>exact k
 | succ h=>
  obtain⟨a,f,g,i,e⟩:=k;refine⟨a,f,g,i,fun j b=>?_⟩;obtain⟨o,es⟩:=d;simp only at a;subst a;obtain⟨l,m⟩:=n _ (aR b) _ _ _ (e j b).2;exact⟨by rw[m];exact(e j b).1,l⟩
theorem OkN.join{a b:List E3}{m m':ByteArray}(p:OkN nodes h (k,a) lo (some m))(u:OkN nodes h (k,b) (some m') hi)(I:kl m' m=false)(D:a≠[])(H:b≠[])(G:a.length+b.length<=5):OkN nodes h (k,a++b) lo hi:=by
 have g:=p.node;have n:=u.node;simp only at g n;have t:0<b.length:=List.length_pos_iff.2 H;have e:∀j,ky (a++b) j=if j<a.length then ky a j else ky b (j-a.length):=fun j=>by unfold ky;rw[dC];split<;>rfl
 have L:∀j,kd (a++b) j=if j<a.length then kd a j else kd b (j-a.length):=fun j=>by unfold kd;rw[dC];split<;>rfl
 have w:∀j,j<b.length->kl (ky b j) m=false:=fun j c=>gO I (n.lo j c);have v:∀i j,i<a.length->j<b.length->kl (ky a i) (ky b j)=true:=fun i j hi c=>lE (g.hi i hi) (w j c);have E:eE (a++b) lo hi:=by
  refine⟨fun i j K c=>?_,fun j c=>?_,fun j c=>?_,by rw[lP];exact G⟩
  ·rw[lP]at c
   rw[e,e];by_cases s:i<a.length
   ·rw[if_pos s]
    by_cases d:j<a.length
    ·rw[if_pos d];exact g.a6 i j K d
    ·rw[if_neg d];exact v _ _ s (by omega)
   ·rw[if_neg s,if_neg (by omega)];exact n.a6 _ _ (by omega) (by omega)
  ·rw[lP]at c
   rw[e];split
   ·exact g.lo j (by assumption)
   ·cases lo with
    | none=>trivial
    | some l=>
     have y:0<a.length:=List.length_pos_iff.2 D;exact gO (g.lo 0 y) (fN (v 0 _ y (by omega)))
  ·rw[lP]at c
   rw[e];split
   ·rename_i d;exact sN (v j 0 d t) (n.hi 0 t)
   ·exact n.hi _ (by omega)
 cases h with
 | zero=>
  refine⟨p.1,E,fun j c=>?_⟩;simp only[lP]at c;simp only;rw[dC];split
  ·exact p.2.2 j (by assumption)
  ·exact u.2.2 _ (by simp only;omega)
 | succ h=>
  obtain⟨z,_,_,A,o⟩:=p;obtain⟨_,_,_,B,r⟩:=u;simp only at z A o B r;refine⟨z,E,by simp[D],fun j c=>?_,fun j c=>?_⟩
  ·simp only[lP]at c
   simp only;rw[dC];split
   ·exact A j (by assumption)
   ·exact B _ (by omega)
  ·simp only[lP]at c
   simp only
   rw[L,e];by_cases d:j<a.length
   ·rw[if_pos d,if_pos d]
    refine⟨(o j d).1,?_⟩;by_cases f:j+1<a.length
    ·rw[cN _ (by rw[lP];omega),e,if_pos f]
     have:=(o j d).2
     rw[cN _ f]at this;exact this
    ·have C:=(o j d).2
     rw[eT _ f]at C;rw[cN _ (by rw[lP];omega),e,if_neg f,show j+1-a.length=0 from by omega];exact C.wide (fun _ q=>q) (fun x J=>by have F:kl x m=true:=J;exact lE F (w 0 t))
   ·rw[if_neg d,if_neg d]
    refine⟨(r _ (by omega)).1,?_⟩;have:nxt (a++b) j hi=nxt b (j-a.length) hi:=by
     unfold nxt;rw[lP];by_cases f:j+1<a.length+b.length
     ·rw[if_pos f,if_pos (by omega),e,if_neg (by omega),show j+1-a.length=j-a.length+1 from by omega]
     ·rw[if_neg f,if_neg (by omega)]
    rw[this];exact(r _ (by omega)).2
theorem OkN.take(i:OkN nodes h (k,es) lo hi)(l:0<m)(f:m<es.length):OkN nodes h (k,es.take m) lo (some (ky es m)):=by
 cases h with
 | zero=>
  obtain⟨b,e,c⟩:=i;simp only at b e c;refine⟨b,⟨uA e.a6 m (by omega),fun j a=>?_,fun j a=>?_,?_⟩,fun j a=>?_⟩
  ·simp only at a |-;rw[len_take' (by omega)]at a;rw[eN a];exact e.lo j (by omega)
  ·simp only at a |-;rw[len_take' (by omega)]at a;rw[eN a];exact e.a6 j m a f
  ·simp only;rw[len_take' (by omega)];have:=e.bz;omega
  ·simp only at a |-;rw[len_take' (by omega)]at a;rw[fX _ _ _ a];exact c j (by omega)
 | succ h=>
  obtain⟨b,e,c,g,d⟩:=i;simp only at b e c g d;refine⟨b,⟨uA e.a6 m (by omega),fun j a=>?_,fun j a=>?_,?_⟩,oZ f l,fun j a=>?_,fun j a=>?_⟩
  ·simp only at a |-;rw[len_take' (by omega)]at a;rw[eN a];exact e.lo j (by omega)
  ·simp only at a |-;rw[len_take' (by omega)]at a;rw[eN a];exact e.a6 j m a f
  ·simp only;rw[len_take' (by omega)];have:=e.bz;omega
  ·simp only at a |-;rw[len_take' (by omega)]at a;rw[fX _ _ _ a];exact g j (by omega)
  ·simp only at a |-;rw[len_take' (by omega)]at a
   rw[aEB a,eN a];refine⟨(d j (by omega)).1,?_⟩;have:nxt (es.take m) j (some (ky es m))=nxt es j hi:=by
    rw[cN (es:=es) hi (by omega)];by_cases q:j+1<m
    ·rw[cN _ (by rw[len_take' (by omega)];exact q),eN q]
    ·rw[eT _ (by rw[len_take' (by omega)];exact q),show j+1=m from by omega]
   rw[this];exact(d j (by omega)).2
theorem OkN.drop(g:OkN nodes h (k,es) lo hi)(l:m<es.length):OkN nodes h (k,es.drop m) (some (ky es m)) hi:=by
 have i:eE es lo hi->eE (es.drop m) (some (ky es m)) hi:=fun e=>by
  refine⟨aAP e.a6 m,fun j a=>?_,fun j a=>?_,?_⟩
  ·rw[List.length_drop]at a;rw[gH]
   by_cases e0:j=0
   ·subst e0;exact eI _
   ·exact fN (e.a6 m (m+j) (by omega) (by omega))
  ·rw[List.length_drop]at a;rw[gH];exact e.hi _ (by omega)
  ·rw[List.length_drop];have:=e.bz;omega
 cases h with
 | zero=>
  obtain⟨b,e,c⟩:=g;simp only at b e c;refine⟨b,i e,fun j a=>?_⟩;simp only at a |-;rw[List.length_drop]at a;rw[fF];exact c _ (by omega)
 | succ h=>
  obtain⟨b,e,c,f,d⟩:=g;simp only at b e c f d;refine⟨b,i e,nS l,fun j a=>?_,fun j a=>?_⟩
  ·simp only at a |-;rw[List.length_drop]at a;rw[fF];exact f _ (by omega)
  ·simp only at a |-;rw[List.length_drop]at a
   rw[aEA,gH];refine⟨(d _ (by omega)).1,?_⟩;have:nxt (es.drop m) j hi=nxt es (m+j) hi:=by
    unfold nxt;rw[List.length_drop,gH];by_cases q:m+j+1<es.length
    ·rw[if_pos (by omega),if_pos q,show m+(j+1)=m+j+1 from by omega]
    ·rw[if_neg (by omega),if_neg q]
   rw[this];exact(d _ (by omega)).2
def Mem(nodes:Nat->Option Nd):Nat->Nat->ByteArray->Prop
 | 0,b,key=>∃es,nodes b=some (1,es)/\∃j,j<es.length/\ky es j=key
 | h+1,b,key=>∃es,nodes b=some (2,es)/\∃j,j<es.length/\Mem nodes h (kd es j) key
theorem Mem.frame{U:Nat->Prop}(g:∀x d,U x->nodes x=some d->∀c∈Fo.kids d,U c)(he:∀x,U x->nodes' x=nodes x):
  ∀h b,U b->Mem nodes h b key->Mem nodes' h b key
 | 0,b,e,h=>by
  obtain⟨es,a,f⟩:=h;exact⟨es,(he b e).trans a,f⟩
 | h+1,b,e,k=>by
  obtain⟨es,a,j,i,f⟩:=k;exact⟨es,(he b e).trans a,j,i,Mem.frame g he h _ (g b _ e a _ (aR i)) f⟩
theorem Mem.bounds:∀{h b:Nat} {lo hi:OB},Ok nodes h b lo hi->Mem nodes h b key->loR lo key/\hiR hi key
 | 0,b,lo,hi,g,i=>by
  obtain⟨es,f,a,_⟩:=g;obtain⟨es',c,j,d,rfl⟩:=i;rw[f]at c;cases c;exact⟨a.lo j d,a.hi j d⟩
 | h+1,b,lo,hi,g,i=>by
  obtain⟨es,f,a,_,_,k⟩:=g;obtain⟨es',c,j,d,m⟩:=i;rw[f]at c;cases c;obtain⟨n,e⟩:=Mem.bounds (k j d).2 m;constructor
  ·cases lo with
   | none=>trivial
   | some l=>exact gO (a.lo j d) n
  ·by_cases q:j+1<es.length
   ·rw[cN _ q]at e;exact sN e (a.hi _ q)
   ·rw[eT _ q]at e;exact e
theorem Mem.at(a:nodes b=some (2,es))(m:Ok nodes (h+1) b lo hi)(n:Mem nodes (h+1) b key):Mem nodes h (kd es (bL es key)) key:=by
 obtain⟨es',c,i,_,_,k⟩:=m;rw[a]at c;cases c;obtain⟨es',d,j,g,e⟩:=n;rw[a]at d;cases d;obtain⟨l,f⟩:=Mem.bounds (k j g).2 e;have:bL es key=j:=aDP i.a6 key g l fun q=>by rw[cN _ q]at f;exact f
 rw[this];exact e
theorem aO.cl(h:IC f)(ht:t<f.r.length){hb:Nat}(p:aO f t H P b hb lo hi)(q:f.n b=some (k,es))
  {nodes':Nat->Option Nd} (C:Nat->Prop) (l:∀x,C x->cu f x=1/\x∈kids (k,es)) (u:∀x d,f.n x=some d->x≠b->¬C x->nodes' x=some d):
  ∃U:Nat->Prop,(∀x d,U x->f.n x=some d->∀c∈kids d,U c)/\(∀x,U x->nodes' x=f.n x)/\∀x d,f.n x=some d->x∉b :: P->¬C x->U x:=by
 have o:=p.named h ht;refine⟨fun x=>(∃d,f.n x=some d)/\x∉b :: P/\¬C x,fun x d ⟨_,g,j⟩ a c i=>?_,fun x ⟨⟨d,m⟩,g,j⟩=>?_,fun x d a r s=>⟨⟨d,a⟩,r,s⟩⟩
 ·refine⟨h.af a i,fun v=>?_,fun n=>?_⟩
  ·exact g (List.mem_cons_of_mem _ ((o c v).2.1 x d a i))
  ·have:=(h.only (l c n).1 q (l c n).2).2.2 x d a i
   exact g (this▸List.mem_cons_self)
 ·rw[m];exact u x d m (fun e=>g (e▸List.mem_cons_self)) j
def kS(nodes:Nat->Option Nd)(h:Nat)(d:Nd)(key:ByteArray):Prop:=match h with
 | 0=>d.1=1/\∃e∈d.2,e.1=key
 | h+1=>d.1=2/\∃e∈d.2,Mem nodes h (ch e) key
theorem cA(hd:nodes b=some d):Mem nodes h b key↔kS nodes h d key:=by
 obtain⟨k,es⟩:=d;cases h with
 | zero=>
  constructor
  ·rintro⟨es',a,j,f,c⟩;rw[hd]at a;cases a;exact⟨rfl,_,nX f,c⟩
  ·rintro⟨a,e,g,c⟩;simp only at a g;subst a
   obtain⟨j,f,rfl⟩:=cH g;exact⟨es,hd,j,f,c⟩
 | succ h=>
  constructor
  ·rintro⟨es',a,j,f,c⟩;rw[hd]at a;cases a;exact⟨rfl,_,nX f,c⟩
  ·rintro⟨a,e,g,c⟩;simp only at a g;subst a
   obtain⟨j,f,rfl⟩:=cH g;exact⟨es,hd,j,f,c⟩
theorem kS.more(f:kS nodes h (k,es) key)(g:∀e∈es,e∈es')(i:∀c∈kids (k,es),∀h',Mem nodes h' c key->Mem nodes' h' c key):kS nodes' h (k,es') key:=by
 cases h with
 | zero=>obtain⟨b,e,a,d⟩:=f;exact⟨b,e,g e a,d⟩
 | succ h=>
  obtain⟨b,e,a,d⟩:=f;simp only at b a;subst b;exact⟨rfl,e,g e a,i _ (aY.2 ⟨e,a,rfl⟩) _ d⟩
theorem aEG(hd:nodes b=some (2,es))(hn:eE es lo hi)(a:es≠[])(d:∀i,i<es.length->(es.getD i e0).2.1=ByteArray.empty)(c:∀i,i<es.length->2<=sz nodes (kd es i)/\Ok nodes h (kd es i) (some (ky es i)) (nxt es i hi)):Ok nodes (h+1) b lo hi:=⟨es,hd,hn,a,d,c⟩
theorem Wk.move(w:Wk f t H)(p:aO f t H P b (h+1) lo hi)(l:f.n b=some (2,es))(v:a+1<es.length){les' res':List E3}{mid:ByteArray}
  (hl:f.n (kd es a)=some (k,les)) (hr:f.n (kd es (a+1))=some (k,res)) (cl:cu f (kd es a)=1) (X:cu f (kd es (a+1))=1)
  (E:OkN f.n h (k,les') (some (ky es a)) (some mid)) (F:OkN f.n h (k,res') (some mid) (nxt es (a+1) hi)) (zl:2<=les'.length) (zr:2<=res'.length)
  (ba:∀x,(kids (k,les')).count x+(kids (k,res')).count x=(kids (k,les)).count x+(kids (k,res)).count x) (jr:∀e,e∈les'\/e∈res'->e∈les\/e∈res):
  let es':=es.set (a+1) (mid,(es.getD (a+1) e0).2)
  let f':=moveF f b (kd es a) (kd es (a+1)) k les' res' es'
  Wk f' t H/\(cJ f t H->cJ f' t H)/\f'.n b=some (2,es')/\aO f' t H P b (h+1) lo hi/\aO f' t H (b :: P) (kd es a) h (some (ky es a)) (some mid)/\aO f' t H (b :: P) (kd es (a+1)) h (some mid) (nxt es (a+1) hi)/\
   f'.n (kd es a)=some (k,les')/\f'.n (kd es (a+1))=some (k,res')/\(∀key c,c∈kids (k,les)\/c∈kids (k,res)->∀B,Mem f.n B c key->Mem f'.n B c key):=by
 intro es' f';have z:=aR (show a<es.length by omega);have A:=aR v;have WE:kd es a≠kd es (a+1):=fun e=>by
  have:=eA (w.ic.only cl l z).2.1 (by omega) v e.symm;omega
 have m:es'.length=es.length:=by simp[es']
 have T:∀j,es'.getD j e0=if j=a+1 then(mid,(es.getD (a+1) e0).2)else es.getD j e0:=fun j=>bF _ _ _ _ _ v;have o:∀j,ky es' j=if j=a+1 then mid else ky es j:=fun j=>by unfold ky;rw[T];split<;>rfl
 have M:∀j,kd es' j=kd es j:=fun j=>by
  unfold kd;rw[T];split
  ·rename_i e;rw[e];rfl
  ·rfl
 have BH:kids (2,es')=kids (2,es):=by
  rw[gN,gN];refine List.ext_getElem? fun j=>?_;simp only[List.getElem?_map,es',List.getElem?_set];split
  ·rename_i e;subst e
   rw[gD,gE v];rfl
  ·rfl
 obtain⟨es0,q1,r,e3,e4,e5⟩:=(p.ok w.ok).1;rw[l]at q1;cases q1;obtain⟨I1,S⟩:=w.ic.move (pes':=es') (ces':=les') (ses':=res') l z A WE hl hr BH (fun e C=>by
  obtain⟨j,g,rfl⟩:=cH C;rw[T];split
  ·exact w.ic.ar l v
  ·exact w.ic.ar l (by omega)) ba jr ⟨by intro e;rw[e]at zl;simp at zl,by intro e;rw[e]at zr;simp at zr⟩
 have TC:kd es a≠b:=fun e=>w.ic.ag l (by rw[<-e];exact z);have fy:kd es (a+1)≠b:=fun e=>w.ic.ag l (by rw[<-e];exact A);have N:f'.n b=some (2,es'):=by rw[S,aE]
 have nr:f'.n (kd es (a+1))=some (k,res'):=by rw[S,aC _ _ fy,aE]
 have nl:f'.n (kd es a)=some (k,les'):=by rw[S,aC _ _ TC,aC _ _ WE,aE]
 have nx:∀x,x≠b->x≠kd es a->x≠kd es (a+1)->f'.n x=f.n x:=fun x Z I h3=>by rw[S,aC _ _ Z,aC _ _ h3,aC _ _ I]
 have IG:∀x,(x=kd es a\/x=kd es (a+1))->cu f x=1/\x∈kids (2,es):=fun x q=>by
  rcases q with q | q
  ·rw[q];exact⟨cl,z⟩
  ·rw[q];exact⟨X,A⟩
 have IL:∀x d,f.n x=some d->x≠b->¬(x=kd es a\/x=kd es (a+1))->f'.n x=some d:=fun x d hx xe BX=>by
  rw[nx x xe (fun e=>BX (.inl e)) (fun e=>BX (.inr e))];exact hx
 obtain⟨U,mn,K,hU⟩:=p.cl w.ic w.tl l (fun x=>x=kd es a\/x=kd es (a+1)) IG IL;have Bi:∀c,c∈kids (k,les)\/c∈kids (k,res)->U c:=fun c n=>by
  obtain⟨xd,hh⟩:=w.ic.ht;have key:∀{s:Nat} {G:List E3},s∈kids (2,es)->f.n s=some (k,G)->c∈kids (k,G)->U c:=fun {s G} hs hd n=>by
   obtain⟨dc,j8⟩:=w.ic.af hd n;obtain⟨o1,o2⟩:=p.az w.ic l hs hd n;exact hU c dc j8 o1 fun q=>by
    rcases q with q | q
    ·exact o2 (q▸z)
    ·exact o2 (q▸A)
  rcases n with n | n
  ·exact key z hl n
  ·exact key A hr n
 have J:∀{Y:List E3},(∀e∈Y,e∈les\/e∈res)->∀c∈kids (k,Y),∀B lo' hi',Ok f.n B c lo' hi'->Ok f'.n B c lo' hi'/\sz f'.n c=sz f.n c:=fun {Y} ke c n B lo' hi' hk=>by
  obtain⟨rfl,e,C,rfl⟩:=cU n;have:U (ch e):=Bi _ ((ke e C).imp (fun q=>aY.2 ⟨e,q,rfl⟩) fun q=>aY.2 ⟨e,q,rfl⟩);exact⟨Ok.frame mn K _ _ _ _ this hk,by unfold sz;rw[K _ this]⟩
 have O:Ok f'.n h (kd es a) (some (ky es a)) (some mid):=(dO nl).2 (E.kids (J fun e C=>jr e (.inl C)));have Q:Ok f'.n h (kd es (a+1)) (some mid) (nxt es (a+1) hi):=(dO nr).2 (F.kids (J fun e C=>jr e (.inr C)));have W:kl (ky es a) mid=true:=by
  have:=E.node.lo 0 (by simp only;omega)
  have I:=E.node.hi 0 (by simp only;omega);exact lD this I
 have R:hiR (nxt es (a+1) hi) mid:=by
  have Z:=F.node.lo 0 (by simp only;omega);have I:=F.node.hi 0 (by simp only;omega);cases hx:nxt es (a+1) hi with
  | none=>trivial
  | some u=>rw[hx]at I;exact lD Z I
 have WH:∀j,a+1<j->j<es.length->kl mid (ky es j)=true:=fun j g uq=>by
  have:kl mid (ky es (a+1+1))=true:=by rw[cN _ (by omega)]at R;exact R
  by_cases e:j=a+1+1
  ·rw[e];exact this
  ·exact kM this (r.a6 _ _ (by omega) uq)
 have jt:∀j,j≠a->nxt es' j hi=nxt es j hi:=fun j g=>by
  unfold nxt;rw[m,o,if_neg (show ¬j+1=a+1 by omega)]
 have OY:nxt es' a hi=some mid:=by rw[cN _ (by rw[m];exact v),o,if_pos rfl]
 have au:∀y∈P,y≠b:=fun y L e=>by
  obtain⟨xd,hh⟩:=w.ic.ht;have:=p.high hh y L;rw[e]at this;omega
 have C3:∀y∈P,f'.n y=f.n y:=fun y L=>nx y (au y L) (fun e=>p.ax w.ic l z (e▸List.mem_cons_of_mem _ L)) (fun e=>p.ax w.ic l A (e▸List.mem_cons_of_mem _ L));have p':aO f' t H P b (h+1) lo hi:=p.mono rfl (fun _ _=>rfl) C3;have iw:Ok f'.n (h+1) b lo hi:=by
  refine aEG N ⟨fun i j i8 g=>?_,fun j g=>?_,fun j g=>?_,by rw[m];exact r.bz⟩ (fun e=>e3 (List.length_eq_zero_iff.1 (by rw[<-m,e];rfl))) (fun j g=>?_) fun j g=>?_
  ·rw[m]at g
   rw[o,o];by_cases i1:i=a+1
   ·rw[if_pos i1,if_neg (by omega)];exact WH j (by omega) g
   ·rw[if_neg i1]
    by_cases D:j=a+1
    ·rw[if_pos D]
     by_cases e:i=a
     ·rw[e];exact W
     ·exact kM (r.a6 i a (by omega) (by omega)) W
    ·rw[if_neg D];exact r.a6 i j i8 g
  ·rw[m]at g
   rw[o];split
   ·exact aJQ W (r.lo a (by omega))
   ·exact r.lo j g
  ·rw[m]at g
   rw[o];split
   ·by_cases e:a+1+1<es.length
    ·exact sN (WH _ (by omega) e) (r.hi _ e)
    ·rw[eT _ e]at R;exact R
   ·exact r.hi j g
  ·rw[m]at g
   rw[T];split
   ·exact e4 _ v
   ·exact e4 j g
  ·rw[m]at g
   rw[M,o];by_cases D:j=a+1
   ·rw[if_pos D,D,jt _ (by omega)]
    exact⟨by unfold sz;rw[nr];exact zr,Q⟩
   ·rw[if_neg D]
    by_cases j2:j=a
    ·rw[j2,OY];exact⟨by unfold sz;rw[nl];exact zl,O⟩
    ·rw[jt j j2]
     obtain⟨dj,Kq⟩:=w.ic.af l (aR g);have:U (kd es j):=hU _ dj Kq (p.ax w.ic l (aR g)) fun q=>by
      rcases q with q | q
      ·exact j2 (eA (w.ic.only cl l z).2.1 (by omega) g q)
      ·exact D (eA (w.ic.only X l A).2.1 v g q)
     exact⟨by unfold sz;rw[K _ this];exact(e5 j g).1,Ok.frame mn K _ _ _ _ this (e5 j g).2⟩
 have aw:sz f'.n b=sz f.n b:=by unfold sz;rw[N,l];exact m
 refine⟨w.step p I1 rfl l _ IG IL iw (fun hP=>by rw[aw];exact(p.ok w.ok).2 hP),fun ei=>p.rt rfl C3 (fun h0 hP=>?_) ei,N,p',?_,?_,nl,nr,fun key c n B hm=>Mem.frame mn K _ _ (Bi c n) hm⟩
 ·rw[aw]
  rcases ei with q | q
  ·omega
  ·rcases p.top with⟨_,V,_⟩ | ⟨V,_⟩
   ·rw[V];exact q
   ·rw[hP]at V;cases V
 ·have:=aO.down p' N (i:=a) (by rw[m];omega) (by rw[M];exact cl)
  rw[M,o,if_neg (by omega),OY]at this;exact this
 ·have:=aO.down p' N (i:=a+1) (by rw[m];omega) (by rw[M];exact X)
  rw[M,o,if_pos rfl,jt _ (by omega)]at this;exact this
theorem Wk.merge(w:Wk f t H)(p:aO f t H P b (h+1) lo hi)(g:f.n b=some (2,es))(K:a+1<es.length){ces ses:List E3}{s:Nat}
  (C:(c=kd es a/\s=kd es (a+1)/\ces=les/\ses=res)\/(c=kd es (a+1)/\s=kd es a/\ces=res/\ses=les)) (hc:f.n c=some (k,ces)) (u:f.n s=some (k,ses)) (M:cu f c=1)
  (h5:les.length+res.length<=5) (ah:es'.length+1=es.length) (G:∀j,ky es' j=if j<=a then ky es j else ky es (j+1)) (jh:∀j,kd es' j=if j<a then kd es j else if j=a then c else kd es (j+1))
  (hv:∀j,j<es'.length->(es'.getD j e0).2.1=ByteArray.empty) (SP:∀x,(kids (2,es')).count x+one s x=(kids (2,es)).count x) (bz:∀e∈es',0<=e.2.2) (h3:P≠[]->3<=es.length):
  let f':=mergeF f b c s k (les++res) es'
  Wk f' t H/\(3<=es.length->cJ f t H->cJ f' t H)/\f'.n b=some (2,es')/\aO f' t H P b (h+1) lo hi/\aO f' t H (b :: P) c h (some (ky es a)) (nxt es (a+1) hi)/\f'.n c=some (k,les++res)/\
   (∀key x,x∈kids (k,ces)->∀V,Mem f.n V x key->Mem f'.n V x key):=by
 intro f';have ig:=aR (show a<es.length by omega);have It:=aR K;have eS:c∈kids (2,es):=by rcases C with⟨q,_⟩ | ⟨q,_⟩<;>(rw[q];assumption)
 have A:s∈kids (2,es):=by rcases C with⟨_,q,_⟩ | ⟨_,q,_⟩<;>(rw[q];assumption)
 have S:c≠s:=fun e=>by
  rcases C with⟨n,E,_⟩ | ⟨n,E,_⟩
  ·have e':kd es (a+1)=kd es a:=by rw[<-n,<-E,e]
   have:=eA (by rw[<-n];exact(w.ic.only M g eS).2.1) (show a<es.length by omega) K e';omega
  ·have e':kd es a=kd es (a+1):=by rw[<-n,<-E,e]
   have:=eA (by rw[<-n];exact(w.ic.only M g eS).2.1) K (show a<es.length by omega) e';omega
 have N1:es'≠[]:=fun e=>by rw[e]at ah;simp at ah;omega
 obtain⟨es0,n,F,e3,e4,T⟩:=(p.ok w.ok).1;rw[g]at n;cases n;have D:OkN f.n h (k,les) (some (ky es a)) (some (ky es (a+1)))/\2<=les.length:=by
  have l:=T a (by omega);rw[cN _ K]at l;rcases C with⟨n,E,o,r⟩ | ⟨n,E,o,r⟩
  ·rw[<-n]at l;rw[<-o];exact⟨(dO hc).1 l.2,by have:=l.1;unfold sz at this;rw[hc]at this;exact this⟩
  ·rw[<-E]at l;rw[<-r];exact⟨(dO u).1 l.2,by have:=l.1;unfold sz at this;rw[u]at this;exact this⟩
 have L:OkN f.n h (k,res) (some (ky es (a+1))) (nxt es (a+1) hi)/\2<=res.length:=by
  have l:=T (a+1) K;rcases C with⟨n,E,o,r⟩ | ⟨n,E,o,r⟩
  ·rw[<-E]at l;rw[<-r];exact⟨(dO u).1 l.2,by have:=l.1;unfold sz at this;rw[u]at this;exact this⟩
  ·rw[<-n]at l;rw[<-o];exact⟨(dO hc).1 l.2,by have:=l.1;unfold sz at this;rw[hc]at this;exact this⟩
 have qd:les≠[]:=fun e=>by rw[e]at D;have:=D.2;simp at this
 have MR:res≠[]:=fun e=>by rw[e]at L;have:=L.2;simp at this
 have okj:OkN f.n h (k,les++res) (some (ky es a)) (nxt es (a+1) hi):=D.1.join L.1 (eI _) qd MR h5;have kv:∀e,e∈les++res->e∈ces\/e∈ses:=fun e X=>by
  rcases C with⟨_,_,o,r⟩ | ⟨_,_,o,r⟩
  ·rw[o,r];exact List.mem_append.1 X
  ·rw[o,r];exact(List.mem_append.1 X).symm
 obtain⟨I1,I2⟩:=w.ic.merge (pes':=es') (ces':=les++res) g eS A S hc u SP bz N1 (fun x=>by
  rw[oG,List.count_append];rcases C with⟨_,_,o,r⟩ | ⟨_,_,o,r⟩
  ·rw[o,r]
  ·rw[o,r];omega) kv (by simp[qd])
 have nn:c≠b:=fun e=>w.ic.ag g (by rw[<-e];exact eS);have GJ:s≠b:=fun e=>w.ic.ag g (by rw[<-e];exact A);have Y:f'.n b=some (2,es'):=by
  rw[I2];split
  ·rw[aC _ _ (Ne.symm GJ),aE]
  ·rw[aE]
 have nc:f'.n c=some (k,les++res):=by
  rw[I2];split
  ·rw[aC _ _ S,aC _ _ nn,aE]
  ·rw[aC _ _ nn,aE]
 have nx:∀x,x≠b->x≠c->¬(x=s/\cu f s=1)->f'.n x=f.n x:=fun x l W h3=>by
  rw[I2];split
  ·rename_i q;rw[aC _ _ (fun e=>h3 ⟨e,q⟩),aC _ _ l,aC _ _ W]
  ·rw[aC _ _ l,aC _ _ W]
 have IG:∀x,(x=c\/(x=s/\cu f s=1))->cu f x=1/\x∈kids (2,es):=fun x q=>by
  rcases q with q | ⟨q,Z⟩
  ·rw[q];exact⟨M,eS⟩
  ·rw[q];exact⟨Z,A⟩
 have IL:∀x d,f.n x=some d->x≠b->¬(x=c\/(x=s/\cu f s=1))->f'.n x=some d:=fun x d m xe BX=>by
  rw[nx x xe (fun e=>BX (.inl e)) (fun e=>BX (.inr e))];exact m
 obtain⟨U,mn,O,hU⟩:=p.cl w.ic w.tl g (fun x=>x=c\/(x=s/\cu f s=1)) IG IL;have Bi:∀x,x∈kids (k,ces)\/x∈kids (k,ses)->U x:=fun x m=>by
  have key:∀{s':Nat} {ds:List E3},s'∈kids (2,es)->f.n s'=some (k,ds)->x∈kids (k,ds)->U x:=fun {s' ds} MT hd m=>by
   obtain⟨dc,j8⟩:=w.ic.af hd m;obtain⟨o1,o2⟩:=p.az w.ic g MT hd m;exact hU x dc j8 o1 fun q=>by
    rcases q with q | ⟨q,_⟩
    ·exact o2 (q▸eS)
    ·exact o2 (q▸A)
  rcases m with m | m
  ·exact key eS hc m
  ·exact key A u m
 have R:Ok f'.n h c (some (ky es a)) (nxt es (a+1) hi):=(dO nc).2 (okj.kids fun x m V lo' hi' Q=>by
  obtain⟨rfl,e,X,rfl⟩:=cU m;have:U (ch e):=Bi _ ((kv e X).imp (fun q=>aY.2 ⟨e,q,rfl⟩) fun q=>aY.2 ⟨e,q,rfl⟩);exact⟨Ok.frame mn O _ _ _ _ this Q,by unfold sz;rw[O _ this]⟩)
 have jt:∀j,nxt es' j hi=if j<a then nxt es j hi else nxt es (j+1) hi:=fun j=>by
  by_cases B:j<a
  ·rw[if_pos B,cN _ (by omega),cN _ (by omega),G,if_pos (by omega)]
  ·rw[if_neg B]
   unfold nxt;by_cases N:j+1<es'.length
   ·rw[if_pos N,if_pos (by omega),G,if_neg (by omega)]
   ·rw[if_neg N,if_neg (by omega)]
 have au:∀y∈P,y≠b:=fun y I e=>by
  obtain⟨xd,hh⟩:=w.ic.ht;have:=p.high hh y I;rw[e]at this;omega
 have C3:∀y∈P,f'.n y=f.n y:=fun y I=>nx y (au y I) (fun e=>p.ax w.ic g eS (e▸List.mem_cons_of_mem _ I)) (fun e=>p.ax w.ic g A (e.1▸List.mem_cons_of_mem _ I));have ju:(setN (setN f c (k,les++res)) b (2,es')).n s=some (k,ses):=by
  show upd (upd f.n c _) b _ s=_
  rw[aC _ _ GJ,aC _ _ (Ne.symm S)];exact u
 have qa:∀y,y≠s->y∉kids (k,ses)->cu f' y=cu f y:=fun y l W=>nQ (f:=setN (setN f c (k,les++res)) b (2,es')) (w.ic.lt u) ju (fun x m=>w.ic.bg u m) l W;have YB:∀y∈b :: P,cu f' y=cu f y:=fun y I=>qa y (fun e=>p.ax w.ic g A (e▸I)) (fun Q=>(p.az w.ic g A u Q).1 I);have ko:f'.r=f.r:=dY _ _;have p':aO f' t H P b (h+1) lo hi:=p.mono (by unfold aB;rw[ko]) YB C3;have iw:Ok f'.n (h+1) b lo hi:=by
  refine aEG Y ⟨fun i j i8 hj=>?_,fun j hj=>?_,fun j hj=>?_,by have:=F.bz;omega⟩ N1 hv fun j hj=>?_
  ·rw[G,G]
   by_cases i1:i<=a
   ·rw[if_pos i1]
    by_cases B:j<=a
    ·rw[if_pos B];exact F.a6 i j i8 (by omega)
    ·rw[if_neg B];exact F.a6 i _ (by omega) (by omega)
   ·rw[if_neg i1,if_neg (by omega)];exact F.a6 _ _ (by omega) (by omega)
  ·rw[G];split
   ·exact F.lo j (by omega)
   ·exact F.lo _ (by omega)
  ·rw[G];split
   ·exact F.hi j (by omega)
   ·exact F.hi _ (by omega)
  ·have z:∀v,v<es.length->v≠a->v≠a+1->2<=sz f'.n (kd es v)/\Ok f'.n h (kd es v) (some (ky es v)) (nxt es v hi):=fun v J n1 n2=>by
    obtain⟨dj,Kq⟩:=w.ic.af g (aR J);have:U (kd es v):=hU _ dj Kq (p.ax w.ic g (aR J)) fun q=>by
     rcases q with q | ⟨q,Z⟩
     ·rcases C with⟨r1,_⟩ | ⟨r1,_⟩
      ·rw[r1]at q;exact n1 (eA (by rw[<-r1];exact(w.ic.only M g eS).2.1) (by omega) J q)
      ·rw[r1]at q;exact n2 (eA (by rw[<-r1];exact(w.ic.only M g eS).2.1) K J q)
     ·rcases C with⟨_,r1,_⟩ | ⟨_,r1,_⟩
      ·rw[r1]at q;exact n2 (eA (by rw[<-r1];exact(w.ic.only Z g A).2.1) K J q)
      ·rw[r1]at q;exact n1 (eA (by rw[<-r1];exact(w.ic.only Z g A).2.1) (by omega) J q)
    exact⟨by unfold sz;rw[O _ this];exact(T v J).1,Ok.frame mn O _ _ _ _ this (T v J).2⟩
   rw[jh,G,jt];by_cases B:j<a
   ·rw[if_pos B,if_pos (by omega),if_pos B];exact z j (by omega) (by omega) (by omega)
   ·rw[if_neg B,if_neg B]
    by_cases N:j=a
    ·rw[if_pos N,if_pos (by omega),N]
     exact⟨by unfold sz;rw[nc];simp only[lP];have:=D.2;omega,R⟩
    ·rw[if_neg N,if_neg (by omega)];exact z _ (by omega) (by omega) (by omega)
 have aw:sz f'.n b=es'.length:=by unfold sz;rw[Y]
 refine⟨w.step p I1 ko g _ IG IL iw (fun hP=>by rw[aw];have:=h3 hP;omega),fun Pj ei=>p.rt (by unfold aB;rw[ko]) C3 (fun h0 hP=>by rw[aw];omega) ei,Y,p',?_,nc,fun key x m V hm=>Mem.frame mn O _ _ (Bi x (.inl m)) hm⟩;have me:kd es' a=c:=by rw[jh,if_neg (by omega),if_pos rfl]
 have:=aO.down p' Y (i:=a) (by omega) (by rw[me,qa c S (fun Q=>(p.az w.ic g A u Q).2 eS)];exact M)
 rw[me,G,if_pos (nR a),jt,if_neg (by omega)]at this;exact this
theorem Wk.cn(w:Wk f t (h+1)){e:E3}(g:f.n (aB f t)=some (2,[e]))(h1:cu f (aB f t)=1)(hc:cu f (ch e)=1):
  let f':=fallF f t (aB f t) (ch e)
  Wk f' t h/\aO f' t h [] (ch e) h none none/\aB f' t=ch e/\cJ f' t h/\(∀x,x≠aB f t->f'.n x=f.n x)/\(∀key,Mem f.n h (ch e) key->Mem f'.n h (ch e) key):=by
 intro f';obtain⟨C,D⟩:=w.ic.cn (t:=t) (r:=aB f t) w.tl rfl g h1;have L:=w.ic.aD (aQ w.tl) h1;have z:ch e∈kids (2,[e]):=by simp[gN]
 have j:aB f' t=ch e:=by
  show((f.r.set t _).getD t (0,0)).2.toNat=_
  simp[gD,w.tl]
 have v:∀u,u≠t->aB f' u=aB f u:=fun u a=>by
  show((f.r.set t _).getD u (0,0)).2.toNat=_
  unfold aB;simp only[gD,List.getElem?_set,if_neg (Ne.symm a)]
 have A:∀x,x≠aB f t->f'.n x=f.n x:=fun x m=>by rw[D,aC _ _ m]
 let U:Nat->Prop:=fun x=>(∃d,f.n x=some d)/\x≠aB f t
 have o:∀x d,U x->f.n x=some d->∀c∈kids d,U c:=fun x d' _ m c y=>
  ⟨w.ic.af m y,fun e=>L.2 x d' m (by have:c=(f.r.getD t (0,0)).2.toNat:=e;rw[<-this];exact y)⟩
 have i:∀x,U x->f'.n x=f.n x:=fun x ⟨_,h1⟩=>A x h1;have l:U (ch e):=⟨w.ic.af g z,fun q=>w.ic.ag g (q▸z)⟩;obtain⟨G,B,_,_,_,F⟩:=w.ok;rw[g]at B;cases B;have n:=F 0 (by simp);have M:kd [e] 0=ch e:=rfl;rw[M]at n;have p:Ok f'.n h (ch e) none none:=(Ok.frame o i _ _ _ _ l n.2).wide (fun _ _=>trivial) (fun _ _=>trivial);refine⟨⟨C,by show t <(f.r.set t _).length;simpa using w.tl,by rw[j];exact p,fun u a k=>?_⟩,?_,j,.inr (by rw[j];unfold sz;rw[i _ l];exact n.1),A,fun key K=>Mem.frame o i _ _ l K⟩
 ·have a:u<f.r.length:=by have:u <(f.r.set t _).length:=a;simpa using this
  obtain⟨J,I,b⟩:=w.ee u a k;have s:U (aB f u):=⟨w.ic.ao (aQ a),nC w.ic w.tl a k h1⟩;refine⟨J,by rw[v u k];exact Ok.frame o i _ _ _ _ s I,?_⟩;rcases b with b | b
  ·exact .inl b
  ·refine .inr ?_
   unfold sz at b |-;rw[v u k,i _ s];exact b
 ·have E:ch e≠aB f t:=l.2
  have:=aO.here (f:=f') (t:=t) (H:=h) (by
   rw[j];exact(fL f (aB f t) (ch e) 0 (w.ic.lt g)).trans ((if_neg (Ne.symm E)).trans hc))
  rw[j]at this;exact this
