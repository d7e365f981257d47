import Derived.Test.YtmpagpeenjddgaaGreatFo9
set_option linter.all false
namespace Go.Proofs.YtmpagpeenjddgaaGreat.Fo
variable{key val:ByteArray}{k:Int}{es es':List E3}{P:List Nat}{H b c h m t:Nat}{nodes nodes':Nat->Option Nd}{d:Nd}{hi lo:OB}{f g:fZ}
theorem Ok.low(hd:nodes b=some (k,es))(f:Ok nodes h b lo hi):Ok nodes h b (some (ky es 0)) hi:=by
 have g:∀{es:List E3},eE es lo hi->eE es (some (ky es 0)) hi:=fun {es} e=>by
  refine⟨e.a6,fun j i=>?_,e.hi,e.bx⟩;cases j with
  | zero=>exact eI _
  | succ j=>exact fJ (e.a6 0 (j+1) (by omega) i)
 cases h with
 | zero=>obtain⟨es',a,c,d⟩:=f;rw[hd]at a;cases a;exact⟨_,hd,g c,d⟩
 | succ h=>obtain⟨es',a,c,d⟩:=f;rw[hd]at a;cases a;exact⟨_,hd,g c,d⟩
theorem Wk.grow(w:Wk f t H)(h1:cu f (aB f t)=1)(hd:f.n (aB f t)=some (k,es)){q top:Nat}(hm:2<=m)(iN:m+2<=es.length)
  (iw:2<=q) (ng:q<f.c.length) (O:cu f q=0) (S:2<=top) (I:top<f.c.length) (P:cu f top=0) (Q:top≠q):
  let f':=growF f t (aB f t) k es m q top (ky es 0) (ky es m)
  Wk f' t (H+1)/\aN f' t (H+1) [] top (H+1) none none/\aB f' t=top/\cI f' t (H+1)/\f'.n top=some (2,[(ky es 0,.empty,(aB f t:Int)),(ky es m,.empty,(q:Int))]):=by
 intro f';obtain⟨V,s⟩:=w.ic.grow (t:=t) (r:=aB f t) (m:=m) (ky es 0) (ky es m) w.tl rfl hd (by omega) (by omega) iw ng O S I P Q;have M:f.n q=none:=(w.ic.a8.dead q).2 O;have L:f.n top=none:=(w.ic.a8.dead top).2 P;have W:aB f t≠q:=fun e=>by rw[e,M]at hd;cases hd
 have ed:aB f t≠top:=fun e=>by rw[e,L]at hd;cases hd
 have ho:=w.ic.a2 (aP w.tl) h1;have p:aB f' t=top:=by
  show((f.r.set t _).getD t (0,0)).2.toNat=top
  simp[gD,w.tl]
 have K:∀u,u≠t->aB f' u=aB f u:=fun u b=>by
  show((f.r.set t _).getD u (0,0)).2.toNat=_
  unfold aB;simp only[gD,List.getElem?_set,if_neg (Ne.symm b)]
 have a:f'.n top=some (2,[(ky es 0,.empty,(aB f t:Int)),(ky es m,.empty,(q:Int))]):=by rw[s,aD]
 have nq:f'.n q=some (k,es.drop m):=by rw[s,aC _ _ (Ne.symm Q),aD]
 have D:f'.n (aB f t)=some (k,es.take m):=by rw[s,aC _ _ ed,aC _ _ W];exact aD _ _ _
 let U:Nat->Prop:=fun x=>(∃d,f.n x=some d)/\x≠aB f t
 have mi:∀x d,U x->f.n x=some d->∀c∈kids d,U c:=fun x d' _ g c o=>
  ⟨w.ic.af g o,fun e=>ho.2 x d' g (by have:c=(f.r.getD t (0,0)).2.toNat:=e;rw[<-this];exact o)⟩
 have A:∀x,U x->f'.n x=f.n x:=fun x ⟨⟨d',g⟩,h1⟩=>by
  have T:x≠q:=fun e=>by rw[e,M]at g;cases g
  have Z:x≠top:=fun e=>by rw[e,L]at g;cases g
  rw[s,aC _ _ Z,aC _ _ T];exact aC _ _ h1
 have N:=Ok.frame mi A;have R:∀c∈kids (k,es),∀B l y,Ok f.n B c l y->Ok f'.n B c l y/\sz f'.n c=sz f.n c:=fun c o B l y hk=>by
  have G:U c:=⟨w.ic.af hd o,fun e=>w.ic.ag hd (e▸o)⟩;exact⟨N _ _ _ _ G hk,by unfold sz;rw[A c G]⟩
 have F:Ok f'.n H (aB f t) (some (ky es 0)) (some (ky es m)):=by
  have:=Ok.low D (Ok.ct hd w.ok (by omega) (by omega) D R)
  rw[eM (by omega)]at this;exact this
 have E:Ok f'.n H q (some (ky es m)) none:=Ok.cg hd w.ok (by omega) nq R;have hs:Srt es:=by
  obtain⟨d,d1,_,_,d4,_⟩:=w.ok.bj;rw[hd]at d1;cases d1;exact d4
 have X:sz f'.n (aB f t)=m:=by unfold sz;rw[D];exact len_take' (by omega)
 have Y:sz f'.n q=es.length-m:=by unfold sz;rw[nq];exact List.length_drop
 refine⟨⟨V,by show t <(f.r.set t _).length;simpa using w.tl,?_,fun u b v=>?_⟩,?_,p,?_,a⟩
 ·rw[p]
  refine⟨_,a,⟨?_,fun _ _=>trivial,fun _ _=>trivial,by simp⟩,by simp,?_,?_⟩
  ·intro i j iu hj
   simp only[List.length_cons,List.length_nil]at hj;obtain rfl:i=0:=by omega
   obtain rfl:j=1:=by omega
   exact hs 0 m (by omega) (by omega)
  ·intro i C
   simp only[List.length_cons,List.length_nil]at C;obtain rfl | rfl:i=0\/i=1:=by omega
   ·rfl
   ·rfl
  ·intro i C
   simp only[List.length_cons,List.length_nil]at C;obtain rfl | rfl:i=0\/i=1:=by omega
   ·have z:kd [(ky es 0,.empty,(aB f t:Int)),(ky es m,.empty,(q:Int))] 0=aB f t:=by simp[kd,ch]
    rw[z];exact⟨by rw[X];exact hm,F⟩
   ·have z:kd [(ky es 0,.empty,(aB f t:Int)),(ky es m,.empty,(q:Int))] 1=q:=by simp[kd,ch]
    rw[z];exact⟨by rw[Y];omega,E⟩
 ·have b:u<f.r.length:=by have:u <(f.r.set t _).length:=b;simpa using this
  obtain⟨h,g1,n⟩:=w.eb u b v;have J:U (aB f u):=⟨w.ic.ao (aP b),nB w.ic w.tl b v h1⟩;refine⟨h,by rw[K u v];exact N _ _ _ _ J g1,?_⟩;rcases n with n | n
  ·exact .inl n
  ·refine .inr ?_
   unfold sz at n |-;rw[K u v,A _ J];exact n
 ·have:=aN.here (f:=f') (t:=t) (H:=H+1) (by
   rw[p];exact(dV (f:=takeAt (setN f (aB f t) (k,es.take m)) q (k,es.drop m)) (2,[(ky es 0,.empty,(aB f t:Int)),(ky es m,.empty,(q:Int))]) (by simpa [takeAt,setN] using I) top).trans (if_pos rfl))
  rw[p]at this;exact this
 ·refine .inr ?_
  rw[p];unfold sz;rw[a];simp
def fI(es:List E3)(key:ByteArray):Bool:=decide (cLt es key<es.length) && (ky es (cLt es key)).toList == key.toList
theorem dK(es:List E3)(key:ByteArray):fI es key=true↔cLt es key<es.length/\ky es (cLt es key)=key:=by
 unfold fI;rw[Bool.and_eq_true,decide_eq_true_eq,beq_iff_eq];exact⟨fun⟨a,b⟩=>⟨a,gX b⟩,fun⟨a,b⟩=>⟨a,by rw[b]⟩⟩
def putE(es:List E3)(key val:ByteArray):List E3:=
 if fI es key=true then es.set (cLt es key) ((es.getD (cLt es key) e0).1,val,(es.getD (cLt es key) e0).2.2)else insE es (cLt es key) (key,val,0)
theorem aAF(es:List E3)(key val:ByteArray):(putE es key val).length=if fI es key=true then es.length else es.length+1:=by
 unfold putE;split
 ·simp
 ·exact iV _ _ _
theorem aGD(h:eE es lo hi)(v:es.length<5)(key val:ByteArray)(s:loR lo key)(r:hiR hi key):eE (putE es key val) lo hi:=by
 have p:=kV es key;unfold putE;split
 ·rename_i f
  obtain⟨t,w⟩:=(dK es key).1 f;have b:∀j,ky (es.set (cLt es key) ((es.getD (cLt es key) e0).1,val,(es.getD (cLt es key) e0).2.2)) j=ky es j:=fun j=>by
   unfold ky;rw[bB _ _ _ _ _ t];by_cases e:j=cLt es key
   ·rw[if_pos e,e]
   ·rw[if_neg e]
  refine⟨fun i j g a=>?_,fun j a=>?_,fun j a=>?_,by simpa using h.bx⟩
  ·rw[b,b];exact h.a6 i j g (by simpa using a)
  ·rw[b];exact h.lo j (by simpa using a)
  ·rw[b];exact h.hi j (by simpa using a)
 ·rename_i f
  have b:=aEC (es:=es) p (key,val,0);have k:∀j,j<cLt es key->kl (ky es j) key=true:=fun j a=>(iD h.a6 key (by omega)).2 a;have d:∀j,cLt es key<=j->j<es.length->kl key (ky es j)=true:=fun j a l=>by
   have u:∀j,cLt es key<=j->j<es.length->kl (ky es j) key=false:=fun j a l=>by
    cases e:kl (ky es j) key with
    | false=>rfl
    | true=>have:=(iD h.a6 key l).1 e;omega
   have o:kl key (ky es (cLt es key))=true:=by
    rcases lH (u (cLt es key) (nR _) (by omega))with q | q
    ·exact absurd ((dK es key).2 ⟨by omega,q⟩) f
    ·exact q
   by_cases e:j=cLt es key
   ·rw[e];exact o
   ·exact kO o (h.a6 _ _ (by omega) l)
  refine⟨fun i j g a=>?_,fun j a=>?_,fun j a=>?_,by rw[iV];omega⟩
  ·rw[iV]at a
   rw[b,b];by_cases c:i<cLt es key
   ·rw[if_pos c]
    by_cases c1:j<cLt es key
    ·rw[if_pos c1];exact h.a6 i j g (by omega)
    ·rw[if_neg c1]
     by_cases n:j=cLt es key
     ·rw[if_pos n];exact k i c
     ·rw[if_neg n];exact h.a6 i (j-1) (by omega) (by omega)
   ·rw[if_neg c,if_neg (show ¬j<cLt es key by omega),if_neg (show ¬j=cLt es key by omega)]
    by_cases m:i=cLt es key
    ·rw[if_pos m];exact d _ (by omega) (by omega)
    ·rw[if_neg m];exact h.a6 _ _ (by omega) (by omega)
  ·rw[iV]at a
   rw[b];split
   ·exact h.lo j (by omega)
   ·split
    ·exact s
    ·exact h.lo _ (by omega)
  ·rw[iV]at a
   rw[b];split
   ·exact h.hi j (by omega)
   ·split
    ·exact r
    ·exact h.hi _ (by omega)
theorem Wk.leaf(w:Wk f t H)(p:aN f t H P b 0 lo hi)(h:f.n b=some (1,es))(hn:eE es' lo hi)(hc:∀i,i<es'.length->(es'.getD i e0).2.2=0)(o:P≠[]->2<=es'.length):
  Wk (setN f b (1,es')) t H/\(cI f t H->cI (setN f b (1,es')) t H):=by
 have k:IC (setN f b (1,es')):=w.ic.keys h (by simp[aJA]) fun q=>by simp at q
 have g:(setN f b (1,es')).n b=some (1,es'):=aD _ _ _;have j:∀x,x≠b->(setN f b (1,es')).n x=f.n x:=fun x c=>aC _ _ c;refine⟨w.step p k rfl h (fun _=>False) (fun _ q=>q.elim) (fun x d c r _=>by rw[j x r];exact c) ⟨es',g,hn,hc⟩ (fun a=>by unfold sz;rw[g];exact o a),fun m=>?_⟩;refine p.rt rfl (fun y n=>j y fun e=>?_) (fun s a=>?_) m
 ·obtain⟨u,l⟩:=w.ic.ht
  have:=p.high l y n;rw[e]at this;omega
 ·rcases p.top with⟨_,_,q⟩ | ⟨q,_⟩
  ·omega
  ·rw[a]at q;cases q
def aF(f:fZ):Nat:=((List.range f.c.length).find? fun b=>decide (2<=b) && (cu f b == 0) && (co f b == 0)).getD 0
theorem aO(h:aF f≠0):2<=aF f/\aF f<f.c.length/\cu f (aF f)=0/\co f (aF f)=0:=by
 unfold aF at h |-;cases e:(List.range f.c.length).find? fun b=>decide (2<=b) && (cu f b == 0) && (co f b == 0)with
 | none=>rw[e]at h;exact absurd rfl h
 | some q=>
  have a:=List.find?_some e;have c:=List.mem_of_find?_eq_some e;simp only[Bool.and_eq_true,decide_eq_true_eq,beq_iff_eq]at a;simp only[Option.getD_some];exact⟨a.1.1,by simpa using c,a.1.2,a.2⟩
structure aX(f f':fZ):Prop where
 next:f'.next=f.next
 gen:f'.gen=f.gen
 m:f'.m=f.m
 table:f'.table=f.table
 c:f'.c.length=f.c.length
 ids:f'.r.map Prod.fst=f.r.map Prod.fst
theorem aX.refl(f:fZ):aX f f:=⟨rfl,rfl,rfl,rfl,rfl,rfl⟩
theorem aX.trans{k:fZ}(a:aX f g)(b:aX g k):aX f k:=
 ⟨b.next.trans a.next,b.gen.trans a.gen,b.m.trans a.m,b.table.trans a.table,b.c.trans a.c,b.ids.trans a.ids⟩
theorem aX.setN(f:fZ)(b:Nat)(d:Nd):aX f (setN f b d):=⟨rfl,rfl,rfl,rfl,rfl,rfl⟩
theorem aX.takeAt(f:fZ)(b:Nat)(d:Nd):aX f (takeAt f b d):=⟨rfl,rfl,rfl,rfl,by simp[Fo.takeAt],rfl⟩
theorem aX.freeB(f:fZ)(b:Nat):aX f (freeB f b):=⟨rfl,rfl,rfl,rfl,by simp[Fo.freeB],rfl⟩
theorem aX.letGo(f:fZ)(b:Nat):aX f (letGo f b):=by
 refine⟨?_,?_,lZ f b,?_,iK f b,by rw[dX]⟩<;>(unfold Fo.letGo;split<;>rfl)
theorem aX.setL(f:fZ)(L:Loc)(q:Nat):aX f (setL f L q):=by
 cases L with
 | inr c=>obtain⟨b,i⟩:=c;exact aX.setN f b _
 | inl t=>
  refine⟨rfl,rfl,rfl,rfl,rfl,?_⟩;show(f.r.set t _).map Prod.fst=_
  rw[List.map_set];refine List.ext_getElem? fun j=>?_;rw[List.getElem?_set];split
  ·rename_i h;subst h
   by_cases a:t<f.r.length
   ·simp[gD,a]
   ·simp[a]
  ·rfl
theorem aX.shadowAt(f:fZ)(L:Loc)(q:Nat):aX f (shadowAt f L q):=((aX.takeAt f q _).trans (aX.setL _ L q)).trans (aX.letGo _ _)
theorem aX.splitF(f:fZ)(p:Nat)(d:List E3)(a c:Nat)(k:Int)(b:List E3)(m q:Nat)(key:ByteArray):aX f (splitF f p d a c k b m q key):=((aX.setN f _ _).trans (aX.takeAt _ _ _)).trans (aX.setN _ _ _)
theorem aX.growF(f:fZ)(t r:Nat)(k:Int)(es:List E3)(m q a:Nat)(b c:ByteArray):aX f (growF f t r k es m q a b c):=(((aX.setN f _ _).trans (aX.takeAt _ _ _)).trans (aX.takeAt _ _ _)).trans (aX.setL _ _ _)
theorem aX.mergeF(f:fZ)(p c s:Nat)(k:Int)(a b:List E3):aX f (mergeF f p c s k a b):=((aX.setN f _ _).trans (aX.setN _ _ _)).trans (aX.letGo _ _)
theorem aX.moveF(f:fZ)(p c s:Nat)(k:Int)(a d b:List E3):aX f (moveF f p c s k a d b):=((aX.setN f _ _).trans (aX.setN _ _ _)).trans (aX.setN _ _ _)
theorem aX.fallF(f:fZ)(t r c:Nat):aX f (fallF f t r c):=(aX.freeB f r).trans (aX.setL _ _ _)
theorem aX.len{f':fZ}(h:aX f f'):f'.r.length=f.r.length:=by simpa using congrArg List.length h.ids
abbrev own(f:fZ)(b:Nat):Prop:=cu f b=1/\co f b=0
def shadow(f:fZ)(L:Loc):Option (fZ×Nat):=
 if own f (bK f L)then some (f,bK f L)else if aF f=0 then none else some (shadowAt f L (aF f),aF f)
def stepDown(f:fZ)(b:Nat)(key:ByteArray):Option (fZ×Nat):=
 match shadow (setN f b (2,lowK (look f b).2 key)) (.ai b (bI (lowK (look f b).2 key) key))with
 | none=>none
 | some (g,c)=>
  if(look g c).2.length=5 then
   if aF g=0 then none else
    some (splitF g b (look g b).2 (bI (lowK (look f b).2 key) key) c (look g c).1 (look g c).2 3 (aF g) (ky (look g c).2 3),if kl key (ky (look g c).2 3)=true then c else aF g)
  else some (g,c)
def putAt:Nat->fZ->Nat->ByteArray->ByteArray->Option (fZ×Bool)
 | 0,f,b,key,val=>some (setN f b (1,putE (look f b).2 key val),fI (look f b).2 key)
 | h+1,f,b,key,val=>match stepDown f b key with
  | none=>none
  | some (g,c)=>putAt h g c key val
def bL(f:fZ)(t r:Nat):Option (fZ×Nat):=
 if aF f=0 then none else
 if aF (takeAt (setN f r ((look f r).1,(look f r).2.take 3)) (aF f) ((look f r).1,(look f r).2.drop 3))=0 then none else
  some (growF f t r (look f r).1 (look f r).2 3 (aF f) (aF (takeAt (setN f r ((look f r).1,(look f r).2.take 3)) (aF f) ((look f r).1,(look f r).2.drop 3))) (ky (look f r).2 0) (ky (look f r).2 3),
   aF (takeAt (setN f r ((look f r).1,(look f r).2.take 3)) (aF f) ((look f r).1,(look f r).2.drop 3)))
def put(f:fZ)(t H:Nat)(key val:ByteArray):Option (fZ×Bool):=
 match shadow f (.root t)with
 | none=>none
 | some (g,r)=>
  if(look g r).2.length=5 then
   match bL g t r with
   | none=>none
   | some (k,top)=>putAt (H+1) k top key val
  else putAt H g r key val
theorem Wk.aj(w:Wk f t H)(p:aN f t H P b (h+1) lo hi)(k:f.n b=some (2,es)){i:Nat}(l:i<es.length)(a:shadow f (.ai b i)=some (g,c)):
  Wk g t H/\aN g t H P b (h+1) lo hi/\aN g t H (b :: P) c h (some (ky es i)) (nxt es i hi)/\(∃es',g.n b=some (2,es')/\es'.length=es.length/\(∀j,ky es' j=ky es j)/\kd es' i=c)/\g.n c=f.n (kd es i)/\cu g c=1/\co g c=0/\(cI f t H->cI g t H)/\aX f g:=by
 have A:bK f (.ai b i)=kd es i:=by simp only[bK,aE k];rfl
 unfold shadow at a;rw[A]at a;by_cases m:own f (kd es i)
 ·rw[if_pos m]at a;cases a
  exact⟨w,p,aN.down p k l m.1,⟨es,k,rfl,fun _=>rfl,rfl⟩,rfl,m.1,m.2,id,aX.refl _⟩
 ·rw[if_neg m]at a
  by_cases n:aF f=0
  ·rw[if_pos n]at a;cases a
  ·rw[if_neg n]at a;cases a
   obtain⟨B,C,D,E⟩:=aO n;obtain⟨d,o⟩:=w.ic.af k (aQ l);obtain⟨q,r,s,u,v,x,y,F,z⟩:=w.cq p k l o B C D;refine⟨q,r,s,⟨_,u,by simp,fun j=>?_,?_⟩,by rw[v,o],x,?_,z,aX.shadowAt f _ _⟩
   ·simp only[ky];rw[bB _ _ _ _ _ l]
    by_cases e:j=i
    ·rw[if_pos e,e]
    ·rw[if_neg e]
   ·simp only[kd];rw[bB _ _ _ _ _ l,if_pos rfl];simp[ch]
   ·unfold co;rw[y];exact E
theorem Wk.ak(w:Wk f t H){r:Nat}(a:shadow f (.root t)=some (g,r)):
  Wk g t H/\aN g t H [] r H none none/\aB g t=r/\g.n r=f.n (aB f t)/\cu g r=1/\co g r=0/\(cI f t H->cI g t H)/\aX f g:=by
 have o:bK f (.root t)=aB f t:=rfl;unfold shadow at a;rw[o]at a;by_cases b:own f (aB f t)
 ·rw[if_pos b]at a;cases a
  exact⟨w,aN.here b.1,rfl,rfl,b.1,b.2,id,aX.refl _⟩
 ·rw[if_neg b]at a
  by_cases e:aF f=0
  ·rw[if_pos e]at a;cases a
  ·rw[if_neg e]at a;cases a
   obtain⟨p,q,s,u⟩:=aO e;obtain⟨d,i⟩:=w.ic.ao (aP w.tl);obtain⟨c,h,j,k,l,v,m⟩:=w.ca i p q s;have n:cu (shadowAt f (.root t) (aF f)) (aF f)=1:=by
    have:=(h.named c.ic c.tl (aF f) List.mem_cons_self).1;exact this
   refine⟨c,h,j,k.trans i.symm,n,?_,m,aX.shadowAt f _ _⟩;unfold co;rw[l];exact u
theorem aN.inner(w:Wk f t H)(p:aN f t H P b (h+1) lo hi):∃es,f.n b=some (2,es)/\eE es lo hi/\es≠[]:=by
 obtain⟨es,a,c,d,_⟩:=(p.ok w.ok).1;exact⟨es,a,c,d⟩
theorem aN.leaf(w:Wk f t H)(p:aN f t H P b 0 lo hi):∃es,f.n b=some (1,es)/\eE es lo hi/\∀i,i<es.length->(es.getD i e0).2.2=0:=(p.ok w.ok).1
theorem Wk.stepDown(w:Wk f t H)(p:aN f t H P b (h+1) lo hi)(hl:loR lo key)(hh:hiR hi key)(z:sz f.n b<5)(d:stepDown f b key=some (g,c)):
  ∃P' lo' ap,Wk g t H/\aN g t H P' c h lo' ap/\loR lo' key/\hiR ap key/\sz g.n c<5/\(cI f t H->cI g t H)/\aX f g:=by
 obtain⟨es,v,ue,I⟩:=p.inner w;have hz:es.length<5:=by unfold sz at z;rw[v]at z;exact z
 obtain⟨w1,U,r1⟩:=w.bu p v key hl;unfold Fo.stepDown at d;rw[aE v]at d;simp only at d;generalize hK:lowK es key=a at *;have L:(setN f b (2,a)).n b=some (2,a):=aD _ _ _;have J:a.length=es.length:=by rw[<-hK];exact cN es key
 have Q:a≠[]:=fun e=>I (List.length_eq_zero_iff.1 (by rw[<-J,e];rfl));obtain⟨_,Y,Z,_⟩:=U.inner w1;rw[L]at Y;cases Y;generalize hI:bI a key=i at *;have K:i<a.length:=by rw[<-hI];exact eJ key Q
 have T:loR (some (ky a i)) key:=by
  rw[<-hI];exact aLO Z.a6 key (by rw[<-hK];exact(vU es key I).1) Q
 have G:hiR (nxt a i hi) key:=by
  by_cases e:i+1<a.length
  ·rw[cQ _ e];exact aLN Z.a6 key e (by omega)
  ·rw[eR _ e];exact hh
 cases y:shadow (setN f b (2,a)) (.ai b i)with
 | none=>rw[y]at d;cases d
 | some gc=>
  obtain⟨g1,c1⟩:=gc;rw[y]at d;simp only at d;obtain⟨u,p2,V,⟨o,M,A,N,B⟩,m5,O,m7,C,m9⟩:=w1.aj U L K y;have F:=(aX.setN f b (2,a)).trans m9;obtain⟨⟨k,l⟩,r⟩:=u.ic.live (x:=c1) (by rw[O];omega);have av:l.length<=5:=by
   obtain⟨d',d1,_,d2,_⟩:=((V.ok u.ok).1).bj;rw[r]at d1;cases d1;exact d2
  rw[aE r]at d;simp only at d;by_cases j:l.length=5
  ·rw[if_pos j]at d
   by_cases n:aF g1=0
   ·rw[if_pos n]at d;cases d
   ·rw[if_neg n,aE M]at d
    simp only at d
    obtain⟨l1,l2,l3,l4⟩:=aO n;have vd:i<o.length:=by rw[A];exact K
    obtain⟨E,p4,W,X,n1,R,S,D⟩:=u.split p2 M (by rw[A,J];exact hz) vd (by rw[B];exact r) (by rw[B];exact O) (m:=3) (by omega) (by omega) l1 l2 l3;rw[B]at E p4 W X n1 R S D;simp only[sJ,Prod.mk.injEq]at d;obtain⟨rfl,rfl⟩:=d;have jd:nxt o i hi=nxt a i hi:=by unfold nxt;rw[A,N]
    by_cases s:kl key (ky l 3)=true
    ·rw[if_pos s]
     refine⟨_,_,_,E,W,by rw[N];exact T,s,?_,fun q=>D (C (r1 q)),F.trans (aX.splitF ..)⟩;unfold sz;rw[R];simp only[List.length_take];omega
    ·rw[if_neg s]
     refine⟨_,_,_,E,X,Bool.eq_false_iff.2 s,by rw[jd];exact G,?_,fun q=>D (C (r1 q)),F.trans (aX.splitF ..)⟩;unfold sz;rw[S];simp only[List.length_drop];omega
  ·rw[if_neg j]at d
   simp only[sJ,Prod.mk.injEq]at d;obtain⟨rfl,rfl⟩:=d;refine⟨_,_,_,u,V,T,G,?_,fun q=>C (r1 q),F⟩;unfold sz;rw[r];simp only;omega
theorem tN:∀{h:Nat} {f:fZ} (w:Wk f t H) {P:List Nat} {b:Nat} {lo hi:OB} (p:aN f t H P b h lo hi) (hl:loR lo key) (hh:hiR hi key) (h5:sz f.n b<5) (hr:cI f t H) {g:fZ} {th:Bool} (hs:putAt h f b key val=some (g,th)),
  Wk g t H/\cI g t H/\aX f g
 | 0,f,w,P,b,lo,hi,p,hl,hh,h5,hr,g,th,hs=>by
  obtain⟨es,d,r,e⟩:=p.leaf w;unfold putAt at hs;rw[aE d]at hs;simp only[sJ,Prod.mk.injEq]at hs;obtain⟨rfl,rfl⟩:=hs;have s:es.length<5:=by unfold sz at h5;rw[d]at h5;exact h5
  have n:=kV es key;obtain⟨j,k⟩:=w.leaf p d (aGD r s key val hl hh) (fun i a=>by
   rw[aAF]at a;unfold putE;split
   ·rename_i c
    rw[if_pos c]at a;rw[bB _ _ _ _ _ ((dK es key).1 c).1];split
    ·exact e _ ((dK es key).1 c).1
    ·exact e i a
   ·rename_i c
    rw[if_neg c]at a;rw[jR _ _ _ _ n];split
    ·exact e i (by omega)
    ·split
     ·rfl
     ·exact e _ (by omega)) (fun q=>by
   have:=(p.ok w.ok).2 q
   unfold sz at this;rw[d]at this;simp only at this;rw[aAF];split<;>omega)
  exact⟨j,k hr,aX.setN _ _ _⟩
 | h+1,f,w,P,b,lo,hi,p,hl,hh,h5,hr,g,th,hs=>by
  unfold putAt at hs;cases l:stepDown f b key with
  | none=>rw[l]at hs;cases hs
  | some o=>
   obtain⟨g1,c1⟩:=o;rw[l]at hs;obtain⟨C,A,a,w1,B,u,v,x,y,z⟩:=w.stepDown p hl hh h5 l;obtain⟨j,k,m⟩:=tN w1 B u v x (y hr) hs;exact⟨j,k,z.trans m⟩
theorem xQ(w:Wk f t H)(hr:cI f t H){th:Bool}(a:put f t H key val=some (g,th)):∃H',Wk g t H'/\cI g t H'/\aX f g:=by
 unfold put at a;cases i:shadow f (.root t)with
 | none=>rw[i]at a;cases a
 | some gr=>
  obtain⟨g1,r1⟩:=gr;rw[i]at a;simp only at a;obtain⟨w1,z,B,N,r,O,C,s⟩:=w.ak i;obtain⟨⟨k,es⟩,d⟩:=w1.ic.live (x:=r1) (by rw[r];omega);have P:es.length<=5:=by
   obtain⟨d',d1,_,d2,_⟩:=((z.ok w1.ok).1).bj;rw[d]at d1;cases d1;exact d2
  rw[aE d]at a;simp only at a;by_cases c:es.length=5
  ·rw[if_pos c]at a
   cases b:bL g1 t r1 with
   | none=>rw[b]at a;cases a
   | some F=>
    obtain⟨R,L⟩:=F;rw[b]at a;simp only at a;unfold bL at b;rw[aE d]at b;simp only at b;by_cases p:aF g1=0
    ·rw[if_pos p]at b;cases b
    ·rw[if_neg p]at b
     generalize hT:aF (takeAt (setN g1 r1 (k,es.take 3)) (aF g1) (k,es.drop 3))=q at *;by_cases n:q=0
     ·rw[if_pos n]at b;cases b
     ·rw[if_neg n]at b
      simp only[sJ,Prod.mk.injEq]at b;obtain⟨rfl,rfl⟩:=b;obtain⟨G,u,I,S⟩:=aO p;obtain⟨v,y,h,T⟩:=aO (hT▸n);rw[hT]at v y h;have K:∀x,cu (takeAt (setN g1 r1 (k,es.take 3)) (aF g1) (k,es.drop 3)) x=if aF g1=x then 1 else cu g1 x:=fun x=>dV (f:=setN g1 r1 (k,es.take 3)) (k,es.drop 3) u x;rw[K]at h;have A:q≠aF g1:=fun e=>by rw[if_pos e.symm]at h;omega
      rw[if_neg (Ne.symm A)]at h;have o:q<g1.c.length:=by simpa [takeAt,setN] using y
      subst B;obtain⟨M,J,Q,D,E⟩:=w1.grow r d (m:=3) (by omega) (by omega) G u I v o h A;obtain⟨c1,j,l⟩:=tN M J trivial trivial (by unfold sz;rw[E];simp) D a;exact⟨_,c1,j,(s.trans (aX.growF ..)).trans l⟩
  ·rw[if_neg c]at a
   obtain⟨c1,j,l⟩:=tN w1 z trivial trivial (by unfold sz;rw[d];simp only;omega) (C hr) a;exact⟨_,c1,j,s.trans l⟩
def OkN(nodes:Nat->Option Nd)(h:Nat)(d:Nd)(lo hi:OB):Prop:=match h with
 | 0=>d.1=1/\eE d.2 lo hi/\∀i,i<d.2.length->(d.2.getD i e0).2.2=0
 | h+1=>d.1=2/\eE d.2 lo hi/\d.2≠[]/\(∀i,i<d.2.length->(d.2.getD i e0).2.1=ByteArray.empty)/\
   ∀i,i<d.2.length->2<=sz nodes (kd d.2 i)/\Ok nodes h (kd d.2 i) (some (ky d.2 i)) (nxt d.2 i hi)
theorem dO(hd:nodes b=some d):Ok nodes h b lo hi↔OkN nodes h d lo hi:=by
 obtain⟨k,es⟩:=d;cases h with
 | zero=>
  constructor
  ·rintro⟨es',a,c⟩;rw[hd]at a;cases a;exact⟨rfl,c⟩
  ·rintro⟨a,c⟩;simp only at a;subst a;exact⟨es,hd,c⟩
 | succ h=>
  constructor
  ·rintro⟨es',a,c⟩;rw[hd]at a;cases a;exact⟨rfl,c⟩
  ·rintro⟨a,c⟩;simp only at a;subst a;exact⟨es,hd,c⟩
theorem OkN.node(k:OkN nodes h d lo hi):eE d.2 lo hi:=by
 cases h with
 | zero=>exact k.2.1
 | succ h=>exact k.2.1
theorem OkN.kids(k:OkN nodes h d lo hi)(m:∀c∈kids d,∀h' lo' ap,Ok nodes h' c lo' ap->Ok nodes' h' c lo' ap/\sz nodes' c=sz nodes c):OkN nodes' h d lo hi:=by
 cases h with
 | zero=>exact k
 | succ h=>
  obtain⟨a,f,g,i,e⟩:=k;refine⟨a,f,g,i,fun j b=>?_⟩;obtain⟨n,es⟩:=d;simp only at a;subst a;obtain⟨g1,l⟩:=m _ (aQ b) _ _ _ (e j b).2;exact⟨by rw[l];exact(e j b).1,g1⟩
theorem OkN.join{a b:List E3}{m m':ByteArray}(p:OkN nodes h (k,a) lo (some m))(u:OkN nodes h (k,b) (some m') hi)(I:kl m' m=false)(D:a≠[])(H:b≠[])(G:a.length+b.length<=5):OkN nodes h (k,a++b) lo hi:=by
 have g:=p.node;have n:=u.node;simp only at g n;have t:0<b.length:=List.length_pos_iff.2 H;have e:∀j,ky (a++b) j=if j<a.length then ky a j else ky b (j-a.length):=fun j=>by unfold ky;rw[dB];split<;>rfl
 have L:∀j,kd (a++b) j=if j<a.length then kd a j else kd b (j-a.length):=fun j=>by unfold kd;rw[dB];split<;>rfl
 have w:∀j,j<b.length->kl (ky b j) m=false:=fun j c=>gQ I (n.lo j c);have v:∀i j,i<a.length->j<b.length->kl (ky a i) (ky b j)=true:=fun i j hi c=>lG (g.hi i hi) (w j c);have E:eE (a++b) lo hi:=by
  refine⟨fun i j K c=>?_,fun j c=>?_,fun j c=>?_,by rw[lP];exact G⟩
  ·rw[lP]at c
   rw[e,e];by_cases s:i<a.length
   ·rw[if_pos s]
    by_cases d:j<a.length
    ·rw[if_pos d];exact g.a6 i j K d
    ·rw[if_neg d];exact v _ _ s (by omega)
   ·rw[if_neg s,if_neg (by omega)];exact n.a6 _ _ (by omega) (by omega)
  ·rw[lP]at c
   rw[e];split
   ·exact g.lo j (by assumption)
   ·cases lo with
    | none=>trivial
    | some l=>
     have y:0<a.length:=List.length_pos_iff.2 D;exact gQ (g.lo 0 y) (fJ (v 0 _ y (by omega)))
  ·rw[lP]at c
   rw[e];split
   ·rename_i d;exact sK (v j 0 d t) (n.hi 0 t)
   ·exact n.hi _ (by omega)
 cases h with
 | zero=>
  refine⟨p.1,E,fun j c=>?_⟩;simp only[lP]at c;simp only;rw[dB];split
  ·exact p.2.2 j (by assumption)
  ·exact u.2.2 _ (by simp only;omega)
 | succ h=>
  obtain⟨z,_,_,A,o⟩:=p;obtain⟨_,_,_,B,r⟩:=u;simp only at z A o B r;refine⟨z,E,by simp[D],fun j c=>?_,fun j c=>?_⟩
  ·simp only[lP]at c
   simp only;rw[dB];split
   ·exact A j (by assumption)
   ·exact B _ (by omega)
  ·simp only[lP]at c
   simp only
   rw[L,e];by_cases d:j<a.length
   ·rw[if_pos d,if_pos d]
    refine⟨(o j d).1,?_⟩;by_cases f:j+1<a.length
    ·rw[cQ _ (by rw[lP];omega),e,if_pos f]
     have:=(o j d).2
     rw[cQ _ f]at this;exact this
    ·have C:=(o j d).2
     rw[eR _ f]at C;rw[cQ _ (by rw[lP];omega),e,if_neg f,show j+1-a.length=0 from by omega];exact C.wide (fun _ q=>q) (fun x J=>by have F:kl x m=true:=J;exact lG F (w 0 t))
   ·rw[if_neg d,if_neg d]
    refine⟨(r _ (by omega)).1,?_⟩;have:nxt (a++b) j hi=nxt b (j-a.length) hi:=by
     unfold nxt;rw[lP];by_cases f:j+1<a.length+b.length
     ·rw[if_pos f,if_pos (by omega),e,if_neg (by omega),show j+1-a.length=j-a.length+1 from by omega]
     ·rw[if_neg f,if_neg (by omega)]
    rw[this];exact(r _ (by omega)).2
theorem OkN.take(i:OkN nodes h (k,es) lo hi)(l:0<m)(f:m<es.length):OkN nodes h (k,es.take m) lo (some (ky es m)):=by
 cases h with
 | zero=>
  obtain⟨b,e,c⟩:=i;simp only at b e c;refine⟨b,⟨tY e.a6 m (by omega),fun j a=>?_,fun j a=>?_,?_⟩,fun j a=>?_⟩
  ·simp only at a |-;rw[len_take' (by omega)]at a;rw[eM a];exact e.lo j (by omega)
  ·simp only at a |-;rw[len_take' (by omega)]at a;rw[eM a];exact e.a6 j m a f
  ·simp only;rw[len_take' (by omega)];have:=e.bx;omega
  ·simp only at a |-;rw[len_take' (by omega)]at a;rw[fV _ _ _ a];exact c j (by omega)
 | succ h=>
  obtain⟨b,e,c,g,d⟩:=i;simp only at b e c g d;refine⟨b,⟨tY e.a6 m (by omega),fun j a=>?_,fun j a=>?_,?_⟩,pB f l,fun j a=>?_,fun j a=>?_⟩
  ·simp only at a |-;rw[len_take' (by omega)]at a;rw[eM a];exact e.lo j (by omega)
  ·simp only at a |-;rw[len_take' (by omega)]at a;rw[eM a];exact e.a6 j m a f
  ·simp only;rw[len_take' (by omega)];have:=e.bx;omega
  ·simp only at a |-;rw[len_take' (by omega)]at a;rw[fV _ _ _ a];exact g j (by omega)
  ·simp only at a |-;rw[len_take' (by omega)]at a
   rw[aEA a,eM a];refine⟨(d j (by omega)).1,?_⟩;have:nxt (es.take m) j (some (ky es m))=nxt es j hi:=by
    rw[cQ (es:=es) hi (by omega)];by_cases q:j+1<m
    ·rw[cQ _ (by rw[len_take' (by omega)];exact q),eM q]
    ·rw[eR _ (by rw[len_take' (by omega)];exact q),show j+1=m from by omega]
   rw[this];exact(d j (by omega)).2
theorem OkN.drop(g:OkN nodes h (k,es) lo hi)(l:m<es.length):OkN nodes h (k,es.drop m) (some (ky es m)) hi:=by
 have i:eE es lo hi->eE (es.drop m) (some (ky es m)) hi:=fun e=>by
  refine⟨aAQ e.a6 m,fun j a=>?_,fun j a=>?_,?_⟩
  ·rw[List.length_drop]at a;rw[gK]
   by_cases e0:j=0
   ·subst e0;exact eI _
   ·exact fJ (e.a6 m (m+j) (by omega) (by omega))
  ·rw[List.length_drop]at a;rw[gK];exact e.hi _ (by omega)
  ·rw[List.length_drop];have:=e.bx;omega
 cases h with
 | zero=>
  obtain⟨b,e,c⟩:=g;simp only at b e c;refine⟨b,i e,fun j a=>?_⟩;simp only at a |-;rw[List.length_drop]at a;rw[fA];exact c _ (by omega)
 | succ h=>
  obtain⟨b,e,c,f,d⟩:=g;simp only at b e c f d;refine⟨b,i e,nS l,fun j a=>?_,fun j a=>?_⟩
  ·simp only at a |-;rw[List.length_drop]at a;rw[fA];exact f _ (by omega)
  ·simp only at a |-;rw[List.length_drop]at a
   rw[aDZ,gK];refine⟨(d _ (by omega)).1,?_⟩;have:nxt (es.drop m) j hi=nxt es (m+j) hi:=by
    unfold nxt;rw[List.length_drop,gK];by_cases q:m+j+1<es.length
    ·rw[if_pos (by omega),if_pos q,show m+(j+1)=m+j+1 from by omega]
    ·rw[if_neg (by omega),if_neg q]
   rw[this];exact(d _ (by omega)).2
def Mem(nodes:Nat->Option Nd):Nat->Nat->ByteArray->Prop
 | 0,b,key=>∃es,nodes b=some (1,es)/\∃j,j<es.length/\ky es j=key
 | h+1,b,key=>∃es,nodes b=some (2,es)/\∃j,j<es.length/\Mem nodes h (kd es j) key
theorem Mem.frame{U:Nat->Prop}(g:∀x d,U x->nodes x=some d->∀c∈Fo.kids d,U c)(he:∀x,U x->nodes' x=nodes x):
  ∀h b,U b->Mem nodes h b key->Mem nodes' h b key
 | 0,b,e,h=>by
  obtain⟨es,a,f⟩:=h;exact⟨es,(he b e).trans a,f⟩
 | h+1,b,e,k=>by
  obtain⟨es,a,j,i,f⟩:=k;exact⟨es,(he b e).trans a,j,i,Mem.frame g he h _ (g b _ e a _ (aQ i)) f⟩
theorem Mem.bounds:∀{h b:Nat} {lo hi:OB},Ok nodes h b lo hi->Mem nodes h b key->loR lo key/\hiR hi key
 | 0,b,lo,hi,g,i=>by
  obtain⟨es,f,a,_⟩:=g;obtain⟨es',c,j,d,rfl⟩:=i;rw[f]at c;cases c;exact⟨a.lo j d,a.hi j d⟩
 | h+1,b,lo,hi,g,i=>by
  obtain⟨es,f,a,_,_,k⟩:=g;obtain⟨es',c,j,d,m⟩:=i;rw[f]at c;cases c;obtain⟨g1,e⟩:=Mem.bounds (k j d).2 m;constructor
  ·cases lo with
   | none=>trivial
   | some l=>exact gQ (a.lo j d) g1
  ·by_cases q:j+1<es.length
   ·rw[cQ _ q]at e;exact sK e (a.hi _ q)
   ·rw[eR _ q]at e;exact e
theorem Mem.at(a:nodes b=some (2,es))(l:Ok nodes (h+1) b lo hi)(m:Mem nodes (h+1) b key):Mem nodes h (kd es (bI es key)) key:=by
 obtain⟨es',c,i,_,_,k⟩:=l;rw[a]at c;cases c;obtain⟨es',d,j,g,e⟩:=m;rw[a]at d;cases d;obtain⟨g1,f⟩:=Mem.bounds (k j g).2 e;have:bI es key=j:=aDO i.a6 key g g1 fun q=>by rw[cQ _ q]at f;exact f
 rw[this];exact e
theorem aN.cl(h:IC f)(ht:t<f.r.length){hb:Nat}(p:aN f t H P b hb lo hi)(q:f.n b=some (k,es))
  {nodes':Nat->Option Nd} (C:Nat->Prop) (l:∀x,C x->cu f x=1/\x∈kids (k,es)) (u:∀x d,f.n x=some d->x≠b->¬C x->nodes' x=some d):
  ∃U:Nat->Prop,(∀x d,U x->f.n x=some d->∀c∈kids d,U c)/\(∀x,U x->nodes' x=f.n x)/\∀x d,f.n x=some d->x∉b :: P->¬C x->U x:=by
 have o:=p.named h ht;refine⟨fun x=>(∃d,f.n x=some d)/\x∉b :: P/\¬C x,fun x d ⟨_,g,j⟩ a c i=>?_,fun x ⟨⟨d,m⟩,g,j⟩=>?_,fun x d a r s=>⟨⟨d,a⟩,r,s⟩⟩
 ·refine⟨h.af a i,fun v=>?_,fun n=>?_⟩
  ·exact g (List.mem_cons_of_mem _ ((o c v).2.1 x d a i))
  ·have:=(h.only (l c n).1 q (l c n).2).2.2 x d a i
   exact g (this▸List.mem_cons_self)
 ·rw[m];exact u x d m (fun e=>g (e▸List.mem_cons_self)) j
def kU(nodes:Nat->Option Nd)(h:Nat)(d:Nd)(key:ByteArray):Prop:=match h with
 | 0=>d.1=1/\∃e∈d.2,e.1=key
 | h+1=>d.1=2/\∃e∈d.2,Mem nodes h (ch e) key
theorem bX(hd:nodes b=some d):Mem nodes h b key↔kU nodes h d key:=by
 obtain⟨k,es⟩:=d;cases h with
 | zero=>
  constructor
  ·rintro⟨es',a,j,f,c⟩;rw[hd]at a;cases a;exact⟨rfl,_,nX f,c⟩
  ·rintro⟨a,e,g,c⟩;simp only at a g;subst a
   obtain⟨j,f,rfl⟩:=cO g;exact⟨es,hd,j,f,c⟩
 | succ h=>
  constructor
  ·rintro⟨es',a,j,f,c⟩;rw[hd]at a;cases a;exact⟨rfl,_,nX f,c⟩
  ·rintro⟨a,e,g,c⟩;simp only at a g;subst a
   obtain⟨j,f,rfl⟩:=cO g;exact⟨es,hd,j,f,c⟩
theorem kU.more(f:kU nodes h (k,es) key)(g:∀e∈es,e∈es')(i:∀c∈kids (k,es),∀h',Mem nodes h' c key->Mem nodes' h' c key):kU nodes' h (k,es') key:=by
 cases h with
 | zero=>obtain⟨b,e,a,d⟩:=f;exact⟨b,e,g e a,d⟩
 | succ h=>
  obtain⟨b,e,a,d⟩:=f;simp only at b a;subst b;exact⟨rfl,e,g e a,i _ (aW.2 ⟨e,a,rfl⟩) _ d⟩
theorem aEE(hd:nodes b=some (2,es))(hn:eE es lo hi)(a:es≠[])(d:∀i,i<es.length->(es.getD i e0).2.1=ByteArray.empty)(c:∀i,i<es.length->2<=sz nodes (kd es i)/\Ok nodes h (kd es i) (some (ky es i)) (nxt es i hi)):Ok nodes (h+1) b lo hi:=⟨es,hd,hn,a,d,c⟩
theorem Wk.move(w:Wk f t H)(p:aN f t H P b (h+1) lo hi)(l:f.n b=some (2,es)){a:Nat}(z:a+1<es.length){les res les' res':List E3}{mid:ByteArray}
  (hl:f.n (kd es a)=some (k,les)) (hr:f.n (kd es (a+1))=some (k,res)) (cl:cu f (kd es a)=1) (Z:cu f (kd es (a+1))=1)
  (F:OkN f.n h (k,les') (some (ky es a)) (some mid)) (G:OkN f.n h (k,res') (some mid) (nxt es (a+1) hi)) (zl:2<=les'.length) (zr:2<=res'.length)
  (bg:∀x,(kids (k,les')).count x+(kids (k,res')).count x=(kids (k,les)).count x+(kids (k,res)).count x) (lk:∀e,e∈les'\/e∈res'->e∈les\/e∈res):
  let es':=es.set (a+1) (mid,(es.getD (a+1) e0).2)
  let f':=moveF f b (kd es a) (kd es (a+1)) k les' res' es'
  Wk f' t H/\(cI f t H->cI f' t H)/\f'.n b=some (2,es')/\aN f' t H P b (h+1) lo hi/\aN f' t H (b :: P) (kd es a) h (some (ky es a)) (some mid)/\aN f' t H (b :: P) (kd es (a+1)) h (some mid) (nxt es (a+1) hi)/\
   f'.n (kd es a)=some (k,les')/\f'.n (kd es (a+1))=some (k,res')/\(∀key c,c∈kids (k,les)\/c∈kids (k,res)->∀B,Mem f.n B c key->Mem f'.n B c key):=by
 intro es' f';have v:=aQ (show a<es.length by omega);have A:=aQ z;have VC:kd es a≠kd es (a+1):=fun e=>by
  have:=dZ (w.ic.only cl l v).2.1 (by omega) z e.symm;omega
 have m:es'.length=es.length:=by simp[es']
 have V:∀j,es'.getD j e0=if j=a+1 then(mid,(es.getD (a+1) e0).2)else es.getD j e0:=fun j=>bB _ _ _ _ _ z;have o:∀j,ky es' j=if j=a+1 then mid else ky es j:=fun j=>by unfold ky;rw[V];split<;>rfl
 have N:∀j,kd es' j=kd es j:=fun j=>by
  unfold kd;rw[V];split
  ·rename_i e;rw[e];rfl
  ·rfl
 have Al:kids (2,es')=kids (2,es):=by
  rw[gP,gP];refine List.ext_getElem? fun j=>?_;simp only[List.getElem?_map,es',List.getElem?_set];split
  ·rename_i e;subst e
   rw[gD,gE z];rfl
  ·rfl
 obtain⟨es0,q1,r,e3,e4,e5⟩:=(p.ok w.ok).1;rw[l]at q1;cases q1;obtain⟨I1,T⟩:=w.ic.move (pes':=es') (ces':=les') (ses':=res') l v A VC hl hr Al (fun e C=>by
  obtain⟨j,g,rfl⟩:=cO C;rw[V];split
  ·exact w.ic.ar l z
  ·exact w.ic.ar l (by omega)) bg lk ⟨by intro e;rw[e]at zl;simp at zl,by intro e;rw[e]at zr;simp at zr⟩
 have SO:kd es a≠b:=fun e=>w.ic.ag l (by rw[<-e];exact v);have fx:kd es (a+1)≠b:=fun e=>w.ic.ag l (by rw[<-e];exact A);have O:f'.n b=some (2,es'):=by rw[T,aD]
 have nr:f'.n (kd es (a+1))=some (k,res'):=by rw[T,aC _ _ fx,aD]
 have nl:f'.n (kd es a)=some (k,les'):=by rw[T,aC _ _ SO,aC _ _ VC,aD]
 have nx:∀x,x≠b->x≠kd es a->x≠kd es (a+1)->f'.n x=f.n x:=fun x h1 J h3=>by rw[T,aC _ _ h1,aC _ _ h3,aC _ _ J]
 have Hp:∀x,(x=kd es a\/x=kd es (a+1))->cu f x=1/\x∈kids (2,es):=fun x q=>by
  rcases q with q | q
  ·rw[q];exact⟨cl,v⟩
  ·rw[q];exact⟨Z,A⟩
 have Hv:∀x d,f.n x=some d->x≠b->¬(x=kd es a\/x=kd es (a+1))->f'.n x=some d:=fun x d hx wd BC=>by
  rw[nx x wd (fun e=>BC (.inl e)) (fun e=>BC (.inr e))];exact hx
 obtain⟨U,mi,L,hU⟩:=p.cl w.ic w.tl l (fun x=>x=kd es a\/x=kd es (a+1)) Hp Hv;have BM:∀c,c∈kids (k,les)\/c∈kids (k,res)->U c:=fun c n=>by
  obtain⟨te,hh⟩:=w.ic.ht;have key:∀{s:Nat} {I:List E3},s∈kids (2,es)->f.n s=some (k,I)->c∈kids (k,I)->U c:=fun {s I} hs hd n=>by
   obtain⟨dc,jf⟩:=w.ic.af hd n;obtain⟨o1,o2⟩:=p.az w.ic l hs hd n;exact hU c dc jf o1 fun q=>by
    rcases q with q | q
    ·exact o2 (q▸v)
    ·exact o2 (q▸A)
  rcases n with n | n
  ·exact key v hl n
  ·exact key A hr n
 have K:∀{ds:List E3},(∀e∈ds,e∈les\/e∈res)->∀c∈kids (k,ds),∀B E Y,Ok f.n B c E Y->Ok f'.n B c E Y/\sz f'.n c=sz f.n c:=fun {ds} jg c n B E Y hk=>by
  obtain⟨rfl,e,C,rfl⟩:=cM n;have:U (ch e):=BM _ ((jg e C).imp (fun q=>aW.2 ⟨e,q,rfl⟩) fun q=>aW.2 ⟨e,q,rfl⟩);exact⟨Ok.frame mi L _ _ _ _ this hk,by unfold sz;rw[L _ this]⟩
 have Q:Ok f'.n h (kd es a) (some (ky es a)) (some mid):=(dO nl).2 (F.kids (K fun e C=>lk e (.inl C)));have R:Ok f'.n h (kd es (a+1)) (some mid) (nxt es (a+1) hi):=(dO nr).2 (G.kids (K fun e C=>lk e (.inr C)));have X:kl (ky es a) mid=true:=by
  have:=F.node.lo 0 (by simp only;omega)
  have J:=F.node.hi 0 (by simp only;omega);exact lF this J
 have S:hiR (nxt es (a+1) hi) mid:=by
  have h1:=G.node.lo 0 (by simp only;omega);have J:=G.node.hi 0 (by simp only;omega);cases hx:nxt es (a+1) hi with
  | none=>trivial
  | some u=>rw[hx]at J;exact lF h1 J
 have VG:∀j,a+1<j->j<es.length->kl mid (ky es j)=true:=fun j g sc=>by
  have:kl mid (ky es (a+1+1))=true:=by rw[cQ _ (by omega)]at S;exact S
  by_cases e:j=a+1+1
  ·rw[e];exact this
  ·exact kO this (r.a6 _ _ (by omega) sc)
 have jd:∀j,j≠a->nxt es' j hi=nxt es j hi:=fun j g=>by
  unfold nxt;rw[m,o,if_neg (show ¬j+1=a+1 by omega)]
 have Nz:nxt es' a hi=some mid:=by rw[cQ _ (by rw[m];exact z),o,if_pos rfl]
 have aw:∀y∈P,y≠b:=fun y M e=>by
  obtain⟨te,hh⟩:=w.ic.ht;have:=p.high hh y M;rw[e]at this;omega
 have Cj:∀y∈P,f'.n y=f.n y:=fun y M=>nx y (aw y M) (fun e=>p.ax w.ic l v (e▸List.mem_cons_of_mem _ M)) (fun e=>p.ax w.ic l A (e▸List.mem_cons_of_mem _ M));have p':aN f' t H P b (h+1) lo hi:=p.mono rfl (fun _ _=>rfl) Cj;have jh:Ok f'.n (h+1) b lo hi:=by
  refine aEE O ⟨fun i j iu g=>?_,fun j g=>?_,fun j g=>?_,by rw[m];exact r.bx⟩ (fun e=>e3 (List.length_eq_zero_iff.1 (by rw[<-m,e];rfl))) (fun j g=>?_) fun j g=>?_
  ·rw[m]at g
   rw[o,o];by_cases i1:i=a+1
   ·rw[if_pos i1,if_neg (by omega)];exact VG j (by omega) g
   ·rw[if_neg i1]
    by_cases D:j=a+1
    ·rw[if_pos D]
     by_cases e:i=a
     ·rw[e];exact X
     ·exact kO (r.a6 i a (by omega) (by omega)) X
    ·rw[if_neg D];exact r.a6 i j iu g
  ·rw[m]at g
   rw[o];split
   ·exact aJG X (r.lo a (by omega))
   ·exact r.lo j g
  ·rw[m]at g
   rw[o];split
   ·by_cases e:a+1+1<es.length
    ·exact sK (VG _ (by omega) e) (r.hi _ e)
    ·rw[eR _ e]at S;exact S
   ·exact r.hi j g
  ·rw[m]at g
   rw[V];split
   ·exact e4 _ z
   ·exact e4 j g
  ·rw[m]at g
   rw[N,o];by_cases D:j=a+1
   ·rw[if_pos D,D,jd _ (by omega)]
    exact⟨by unfold sz;rw[nr];exact zr,R⟩
   ·rw[if_neg D]
    by_cases j2:j=a
    ·rw[j2,Nz];exact⟨by unfold sz;rw[nl];exact zl,Q⟩
    ·rw[jd j j2]
     obtain⟨dj,KP⟩:=w.ic.af l (aQ g);have:U (kd es j):=hU _ dj KP (p.ax w.ic l (aQ g)) fun q=>by
      rcases q with q | q
      ·exact j2 (dZ (w.ic.only cl l v).2.1 (by omega) g q)
      ·exact D (dZ (w.ic.only Z l A).2.1 z g q)
     exact⟨by unfold sz;rw[L _ this];exact(e5 j g).1,Ok.frame mi L _ _ _ _ this (e5 j g).2⟩
 have ay:sz f'.n b=sz f.n b:=by unfold sz;rw[O,l];exact m
 refine⟨w.step p I1 rfl l _ Hp Hv jh (fun hP=>by rw[ay];exact(p.ok w.ok).2 hP),fun ed=>p.rt rfl Cj (fun h0 hP=>?_) ed,O,p',?_,?_,nl,nr,fun key c n B hm=>Mem.frame mi L _ _ (BM c n) hm⟩
 ·rw[ay]
  rcases ed with q | q
  ·omega
  ·rcases p.top with⟨_,W,_⟩ | ⟨W,_⟩
   ·rw[W];exact q
   ·rw[hP]at W;cases W
 ·have:=aN.down p' O (i:=a) (by rw[m];omega) (by rw[N];exact cl)
  rw[N,o,if_neg (by omega),Nz]at this;exact this
 ·have:=aN.down p' O (i:=a+1) (by rw[m];omega) (by rw[N];exact Z)
  rw[N,o,if_pos rfl,jd _ (by omega)]at this;exact this
