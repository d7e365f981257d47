import Derived.Test.YtmpagpeenjddgaaGreatFo14
set_option linter.all false
namespace Go.Proofs.YtmpagpeenjddgaaGreat.Fo
variable{key:ByteArray}{k:Int}{l m:List (ByteArray×ByteArray)}{ces es:List E3}{P:List Nat}{H a b c h i t:Nat}{E ht:Nat->Nat}{nodes:Nat->Option Nd}{A:Nat->Prop}{d:Nd}{hi lo:OB}{f g:fZ}
theorem Wk.bj(w:Wk f t H)(p:aO f t H P b (h+1) lo hi)(a:f.n b=some (2,es))(hi':i<es.length)(m:shadow f (.ai b i)=some (g,c)):
  (∀key h',Mem f.n h' (kd es i) key->Mem g.n h' c key)/\(∀x∈kids (2,es),x≠kd es i->g.n x=f.n x/\cu g x=cu f x/\∀key h',Mem f.n h' x key->Mem g.n h' x key)/\
   (∀es',g.n b=some (2,es')->∀j,(es'.getD j e0).2.1=(es.getD j e0).2.1/\(j≠i->es'.getD j e0=es.getD j e0)):=by
 have M:look f b=(2,es):=aF a;have z:bN f (.ai b i)=kd es i:=by simp only[bN,M];rfl
 unfold shadow at m;rw[z]at m;by_cases L:own f (kd es i)
 ·rw[if_pos L]at m;cases m
  exact⟨fun _ _ q=>q,fun _ _ _=>⟨rfl,rfl,fun _ _ q=>q⟩,fun es' h' j=>by rw[a]at h';cases h';exact⟨rfl,fun _=>rfl⟩⟩
 ·rw[if_neg L]at m
  by_cases A:aG f=0
  ·rw[if_pos A]at m;cases m
  ·rw[if_neg A]at m;cases m
   obtain⟨i9,O,y,_⟩:=aP A;generalize aG f=q at *;obtain⟨d,l⟩:=w.ic.af a (aR hi');have J:dU f (.ai b i):=⟨w.ic.lt a,es,a,hi'⟩;obtain⟨I1,r,I3,I4,I5⟩:=w.ic.shadow J z l i9 O y;have u:f.n q=none:=(w.ic.bb.dead q).2 y;have eS:=aR hi';have nn:kd es i≠b:=fun e=>w.ic.ag a (by rw[<-e];exact eS);have S:kd es i≠q:=fun e=>by rw[e,u]at l;cases l
   have R:b≠q:=fun e=>by rw[e,u]at a;cases a
   have T:=w.ic.ag l;have nb:(shadowAt f (.ai b i) q).n b=some (setE (2,es) i q):=by
    rw[r];unfold shN cpN;simp only[M];split
    ·rw[aC _ _ (Ne.symm nn),aE]
    ·rw[aE]
   have nq:(shadowAt f (.ai b i) q).n q=some d:=by
    rw[r];unfold shN cpN;simp only;split
    ·rw[aC _ _ (Ne.symm S),aC _ _ (Ne.symm R),aE]
    ·rw[aC _ _ (Ne.symm R),aE]
   have nx:∀x,x≠b->x≠q->¬(x=kd es i/\cu f (kd es i)=1)->(shadowAt f (.ai b i) q).n x=f.n x:=fun x G I Z=>by
    rw[r];unfold shN cpN;simp only;split
    ·rename_i qa
     rw[aC _ _ (fun e=>Z ⟨e,qa⟩),aC _ _ G,aC _ _ I]
    ·rw[aC _ _ G,aC _ _ I]
   have F:∀{x:Nat} {d':Nd},f.n x=some d'->x≠q:=fun n e=>by rw[e,u]at n;cases n
   obtain⟨U,N,v,K⟩:=p.cl w.ic w.tl a (nodes':=(shadowAt f (.ai b i) q).n) (fun x=>x=kd es i/\cu f (kd es i)=1) (fun x ⟨Q,q2⟩=>⟨by rw[Q];exact q2,by rw[Q];exact eS⟩) (fun x d n xe V=>by rw[nx x xe (F n) V];exact n);refine⟨fun key h' o=>?_,fun x n C=>?_,fun es' h' j=>?_⟩
   ·rw[cA nq]
    rw[cA l]at o;obtain⟨k,X⟩:=d;refine o.more (fun e he=>he) fun c s Xh ik=>?_;obtain⟨W,j8⟩:=w.ic.af l s;exact Mem.frame N v _ _ (K c W j8 (p.az w.ic a eS l s).1 fun B=>T (B.1▸s)) ik
   ·obtain⟨Y,D⟩:=w.ic.af a n
    have E:=K x Y D (p.ax w.ic a n) fun B=>C B.1;refine⟨v x E,vE w.ic J z l O y C (fun hk=>?_) (F D),fun key h' o=>Mem.frame N v _ _ E o⟩;exact(p.az w.ic a eS l hk).2 n
   ·rw[nb]at h'
    have:es'=es.set i ((es.getD i e0).1,(es.getD i e0).2.1,(q:Int)):=by
     simp only[setE,sJ,Prod.mk.injEq,true_and]at h';exact h'.symm
    rw[this,bF _ _ _ _ _ hi'];by_cases e:j=i
    ·rw[if_pos e,e];exact⟨rfl,fun q=>absurd rfl q⟩
    ·rw[if_neg e];exact⟨rfl,fun _=>rfl⟩
def fillNext(g:fZ)(b i c:Nat):Option fZ:=
 if 2 <(look g (kd (look g b).2 (i+1))).2.length then
  match shadow g (.ai b (i+1))with
  | none=>none
  | some (k,s)=>some (moveF k b c s (look k c).1 ((look k c).2++(look k s).2.take 1) ((look k s).2.drop 1) ((look k b).2.set (i+1) (ky (look k s).2 1,((look k b).2.getD (i+1) e0).2)))
 else some (mergeF g b c (kd (look g b).2 (i+1)) (look g c).1 ((look g c).2++(look g (kd (look g b).2 (i+1))).2) (delE (look g b).2 (i+1)))
def fillLast(g:fZ)(b i c:Nat):Option fZ:=
 if 2 <(look g (kd (look g b).2 (i-1))).2.length then
  match shadow g (.ai b (i-1))with
  | none=>none
  | some (k,s)=>some (moveF k b s c (look k c).1 ((look k s).2.take ((look k s).2.length-1)) ((look k s).2.drop ((look k s).2.length-1)++(look k c).2) ((look k b).2.set i (ky (look k s).2 ((look k s).2.length-1),((look k b).2.getD i e0).2)))
 else some (mergeF g b c (kd (look g b).2 (i-1)) (look g c).1 ((look g (kd (look g b).2 (i-1))).2++(look g c).2) (delE ((look g b).2.set i (ky (look g b).2 (i-1),((look g b).2.getD i e0).2)) (i-1)))
def stepDel(f:fZ)(b:Nat)(key:ByteArray):Option (fZ×Nat):=
 match shadow f (.ai b (bL (look f b).2 key))with
 | none=>none
 | some (g,c)=>
  if 2 <(look g c).2.length then some (g,c)else
  if bL (look f b).2 key+1 <(look g b).2.length then(fillNext g b (bL (look f b).2 key) c).map fun k=>(k,c)
  else(fillLast g b (bL (look f b).2 key) c).map fun k=>(k,c)
def delAt:Nat->fZ->Nat->Nat->ByteArray->Option fZ
 | 0,f,t,b,key=>some (setN f b (1,delE (look f b).2 (cLt (look f b).2 key)))
 | h+1,f,t,b,key=>match stepDel f b key with
  | none=>none
  | some (g,c)=>if(look g b).2.length=1 then delAt h (fallF g t (aB g t) (kd (look g b).2 0)) t c key else delAt h g t c key
def bX(f:fZ)(t H:Nat)(key:ByteArray):Option fZ:=
 match shadow f (.root t)with
 | none=>none
 | some (g,r)=>delAt H g t r key
theorem lC(k:Int)(es:List E3)(n x:Nat):(kids (k,es.take n)).count x+(kids (k,es.drop n)).count x=(kids (k,es)).count x:=(sQ k es n x).symm
structure Stp(f g:fZ)(t H:Nat)(P:List Nat)(b h:Nat)(lo hi:OB)(c:Nat)(key:ByteArray):Prop where
 wk:Wk g t H
 same:aZ f g
 path:∃lo' hi',aO g t H (b :: P) c h lo' hi'
 up:aO g t H P b (h+1) lo hi
 spare:3<=sz g.n c
 mem:Mem g.n h c key
 rt:cJ f t H->cJ g t H\/(P=[]/\∃e,g.n b=some (2,[e])/\ch e=c)
 many:(∃es,g.n b=some (2,es)/\2<=es.length)\/(P=[]/\∃e,g.n b=some (2,[e])/\ch e=c)
theorem Wk.fillNext(w:Wk g t H)(p:aO g t H P b (h+1) lo hi)(n:g.n b=some (2,es))(hi':i+1<es.length)(hc:g.n (kd es i)=some (k,ces))(O:cu g (kd es i)=1)(ap:ces.length=2)(T:Mem g.n h (kd es i) key)(h3:P≠[]->3<=es.length)
  {f':fZ} (f:fillNext g b i (kd es i)=some f'):Stp g f' t H P b h lo hi (kd es i) key:=by
 have eS:=aR (show i<es.length by omega);have qi:=aR hi';obtain⟨es0,z,e2,e3,e4,Q⟩:=(p.ok w.ok).1;rw[n]at z;cases z;have K:=(dO hc).1 (Q i (by omega)).2;rw[cN _ hi']at K;obtain⟨⟨o,d⟩,u⟩:=w.ic.af n qi;have J:=(dO u).1 (Q (i+1) hi').2;have mz:o=k:=by
  cases h with
  | zero=>have L:=K.1;have M:=J.1;simp only at L M;omega
  | succ h=>have L:=K.1;have M:=J.1;simp only at L M;omega
 subst mz;have ef:2<=d.length:=by have:=(Q (i+1) hi').1;unfold sz at this;rw[u]at this;exact this
 have GI:d.length<=5:=J.node.bz;have fw:kd es i≠kd es (i+1):=fun e=>by
  have:=eA (w.ic.only O n eS).2.1 (by omega) hi' e.symm;omega
 have AS:ces≠[]:=fun e=>by rw[e]at ap;simp at ap
 unfold Fo.fillNext at f;rw[aF n]at f;simp only at f;rw[aF u]at f;simp only at f;by_cases my:2<d.length
 ·rw[if_pos my]at f
  cases B:shadow g (.ai b (i+1))with
  | none=>rw[B]at f;cases f
  | some ks=>
   obtain⟨C,s⟩:=ks;rw[B]at f;simp only[sJ]at f;obtain⟨w2,p2,p3,⟨m,D,m2,m3,E⟩,m5,m6,m7,m8,m9⟩:=w.aj p n hi' B;obtain⟨s1,s2,s3⟩:=w.bj p n hi' B;obtain⟨x1,x2,x3⟩:=s2 _ eS fw;have F:kd m i=kd es i:=by unfold kd;rw[(s3 m D i).2 (by omega)]
   have W:C.n (kd m i)=some (o,ces):=by rw[F,x1];exact hc
   have vh:C.n (kd m (i+1))=some (o,d):=by rw[E,m5];exact u
   obtain⟨es3,z,_,_,_,r⟩:=(p2.ok w2.ok).1;rw[D]at z;cases z;have Gi:=(dO W).1 (r i (by omega)).2;rw[cN _ (by omega)]at Gi;have DX:=(dO vh).1 (r (i+1) (by omega)).2;have Ko:C.n s=some (o,d):=by rw[<-E];exact vh
   have BB:C.n (kd es i)=some (o,ces):=by rw[<-F];exact W
   rw[aF BB,aF Ko,aF D]at f;simp only at f;have G:=w2.move p2 D (a:=i) (by omega) W vh (by rw[F,x2];exact O) (by rw[E];exact m6) (les':=ces++d.take 1) (res':=d.drop 1) (mid:=ky d 1)
    (Gi.join (DX.take (by omega) (by omega)) (eI _) AS (oZ (by omega) (by omega)) (by rw[len_take' (by omega)];omega))
    (DX.drop (by omega)) (by rw[lP,len_take' (by omega)];omega) (by rw[List.length_drop];omega)
    (fun x=>by rw[oG,List.count_append];have:=lC o d 1 x;omega)
    (fun e l=>by
     rcases l with l | l
     ·rcases List.mem_append.1 l with l | l
      ·exact .inl l
      ·exact .inr (List.mem_of_mem_take l)
     ·exact .inr (List.mem_of_mem_drop l))
   rw[E,F]at G;simp only at G;rw[f]at G;obtain⟨Z,v2,A,v4,v5,v6,I,v8,v9⟩:=G;have wm:(m.set (i+1) (ky d 1,(m.getD (i+1) e0).2)).length=es.length:=by simp[m2]
   refine⟨Z,m9.trans (f▸aZ.moveF ..),⟨_,_,v5⟩,v4,?_,?_,fun U=>.inl (v2 (m8 U)),.inl ⟨_,A,by rw[wm];omega⟩⟩
   ·unfold sz;rw[I];simp only[lP,List.length_take];omega
   ·rw[cA I]
    have pd:=x3 key h T;rw[cA BB]at pd;exact pd.more (fun e l=>List.mem_append_left _ l) fun c N R V=>v9 key c (.inl N) R V
 ·rw[if_neg my,aF hc]at f
  simp only[sJ]at f;have bz:∀e∈delE es (i+1),0<=e.2.2:=fun e l=>by
   obtain⟨j,S,rfl⟩:=cH (oP l);exact w.ic.ar n S
  have X:=fun j=>iJ es (i+1) e0 (by omega) j;have Y:=w.merge p n (a:=i) hi' (es':=delE es (i+1)) (.inl ⟨rfl,rfl,rfl,rfl⟩) hc u O (by omega) (by rw[bU _ _ hi'];omega)
   (fun j=>by
    unfold ky;rw[X];by_cases q:j<=i
    ·rw[if_pos (by omega),if_pos q]
    ·rw[if_neg (by omega),if_neg q])
   (fun j=>by
    unfold kd;rw[X];by_cases q:j<i
    ·rw[if_pos (by omega),if_pos q]
    ·rw[if_neg q]
     by_cases v:j=i
     ·rw[if_pos (by omega),if_pos v,v]
     ·rw[if_neg (by omega),if_neg v])
   (fun j S=>by
    rw[bU _ _ hi']at S;rw[X];split
    ·exact e4 j (by omega)
    ·exact e4 _ (by omega))
   (fun x=>vO es (i+1) x hi') bz h3
  simp only at Y
  rw[f]at Y;obtain⟨Z,v2,A,v4,v5,v6,I⟩:=Y;have fq:(∃es',f'.n b=some (2,es')/\2<=es'.length)\/(P=[]/\∃e,f'.n b=some (2,[e])/\ch e=kd es i):=by
   by_cases q:3<=es.length
   ·exact .inl ⟨_,A,by rw[bU _ _ hi'];omega⟩
   ·refine .inr ⟨by by_cases hP:P=[];exact hP;exact absurd (h3 hP) q,es.getD 0 e0,?_,?_⟩
    ·rw[A]
     have hl:es.length=2:=by omega
     obtain rfl:i=0:=by omega
     match es,hl with
     | [x,y],_=>rfl
    ·obtain rfl:i=0:=by omega
     rfl
  refine⟨Z,f▸aZ.mergeF ..,⟨_,_,v5⟩,v4,?_,?_,fun U=>?_,fq⟩
  ·unfold sz;rw[v6];simp only[lP];omega
  ·rw[cA v6]
   rw[cA hc]at T;exact T.more (fun e l=>List.mem_append_left _ l) fun c N R V=>I key c N R V
  ·by_cases q:3<=es.length
   ·exact .inl (v2 q U)
   ·rcases fq with⟨es',n1,n2⟩ | v
    ·rw[A]at n1;cases n1;rw[bU _ _ hi']at n2;omega
    ·exact .inr v
theorem Wk.fillLast(w:Wk g t H)(p:aO g t H P b (h+1) lo hi)(n:g.n b=some (2,es))(hi':a+1<es.length)(P9:¬a+1+1<es.length)(hc:g.n (kd es (a+1))=some (k,ces))(R:cu g (kd es (a+1))=1)(ap:ces.length=2)(V:Mem g.n h (kd es (a+1)) key)(h3:P≠[]->3<=es.length)
  {f':fZ} (f:fillLast g b (a+1) (kd es (a+1))=some f'):Stp g f' t H P b h lo hi (kd es (a+1)) key:=by
 have eS:=aR hi';have qi:=aR (show a<es.length by omega);obtain⟨es0,z,e2,e3,S,T⟩:=(p.ok w.ok).1;rw[n]at z;cases z;have CM:=(dO hc).1 (T (a+1) hi').2;obtain⟨⟨r,d⟩,v⟩:=w.ic.af n qi;have L:=(dO v).1 (T a (by omega)).2;have mz:r=k:=by
  cases h with
  | zero=>have N:=CM.1;have O:=L.1;simp only at N O;omega
  | succ h=>have N:=CM.1;have O:=L.1;simp only at N O;omega
 subst mz;have ef:2<=d.length:=by have:=(T a (by omega)).1;unfold sz at this;rw[v]at this;exact this
 have GI:d.length<=5:=L.node.bz;have fw:kd es (a+1)≠kd es a:=fun e=>by
  have:=eA (w.ic.only R n eS).2.1 hi' (by omega) e.symm;omega
 have AS:ces≠[]:=fun e=>by rw[e]at ap;simp at ap
 unfold Fo.fillLast at f;rw[aF n]at f;simp only[Nat.add_sub_cancel]at f;rw[aF v]at f;simp only at f;by_cases my:2<d.length
 ·rw[if_pos my]at f
  cases B:shadow g (.ai b a)with
  | none=>rw[B]at f;cases f
  | some ks=>
   obtain⟨C,s⟩:=ks;rw[B]at f;simp only[sJ]at f;obtain⟨w2,p2,p3,⟨l,F,m2,m3,G⟩,m5,m6,m7,m8,m9⟩:=w.aj p n (show a<es.length by omega) B;obtain⟨s1,s2,s3⟩:=w.bj p n (show a<es.length by omega) B;obtain⟨x1,x2,x3⟩:=s2 _ eS fw;have I:kd l (a+1)=kd es (a+1):=by unfold kd;rw[(s3 l F (a+1)).2 (by omega)]
   have Y:C.n (kd l (a+1))=some (r,ces):=by rw[I,x1];exact hc
   have vh:C.n (kd l a)=some (r,d):=by rw[G,m5];exact v
   obtain⟨es3,z,_,_,_,u⟩:=(p2.ok w2.ok).1;rw[F]at z;cases z;have Gi:=(dO Y).1 (u (a+1) (by omega)).2;have M:=(dO vh).1 (u a (by omega)).2;rw[cN _ (by omega)]at M;have Ko:C.n s=some (r,d):=by rw[<-G];exact vh
   have BB:C.n (kd es (a+1))=some (r,ces):=by rw[<-I];exact Y
   rw[aF BB,aF Ko,aF F]at f;simp only at f;have J:=w2.move p2 F (a:=a) (by omega) vh Y (by rw[G];exact m6) (by rw[I,x2];exact R) (les':=d.take (d.length-1)) (res':=d.drop (d.length-1)++ces) (mid:=ky d (d.length-1))
    (M.take (by omega) (by omega))
    ((M.drop (by omega)).join Gi (eI _) (nS (by omega)) AS (by rw[List.length_drop];omega)) (by rw[len_take' (by omega)];omega) (by rw[lP,List.length_drop];omega)
    (fun x=>by rw[oG,List.count_append];have:=lC r d (d.length-1) x;omega)
    (fun e i=>by
     rcases i with i | i
     ·exact .inl (List.mem_of_mem_take i)
     ·rcases List.mem_append.1 i with i | i
      ·exact .inl (List.mem_of_mem_drop i)
      ·exact .inr i)
   rw[G,I]at J;simp only at J;rw[f]at J;obtain⟨v1,v2,A,v4,v5,K,v7,v8,v9⟩:=J;have wm:(l.set (a+1) (ky d (d.length-1),(l.getD (a+1) e0).2)).length=es.length:=by simp[m2]
   refine⟨v1,m9.trans (f▸aZ.moveF ..),⟨_,_,K⟩,v4,?_,?_,fun W=>.inl (v2 (m8 W)),.inl ⟨_,A,by rw[wm];omega⟩⟩
   ·unfold sz;rw[v8];simp only[lP,List.length_drop];omega
   ·rw[cA v8]
    have pd:=x3 key h V;rw[cA BB]at pd;exact pd.more (fun e i=>List.mem_append_right _ i) fun c Q U X=>v9 key c (.inr Q) U X
 ·rw[if_neg my,aF hc]at f
  simp only[sJ]at f;have o:(es.set (a+1) (ky es a,(es.getD (a+1) e0).2)).length=es.length:=by simp
  have E:∀j,(es.set (a+1) (ky es a,(es.getD (a+1) e0).2)).getD j e0=if j=a+1 then(ky es a,(es.getD (a+1) e0).2)else es.getD j e0:=fun j=>bF _ _ _ _ _ hi';have Z:∀j,(delE (es.set (a+1) (ky es a,(es.getD (a+1) e0).2)) a).getD j e0=if j<a then es.getD j e0 else if j=a then(ky es a,(es.getD (a+1) e0).2)else es.getD (j+1) e0:=fun j=>by
   rw[iJ _ _ _ (by rw[o];omega)];by_cases q:j<a
   ·rw[if_pos q,if_pos q,E,if_neg (by omega)]
   ·rw[if_neg q,if_neg q,E]
    by_cases m:j=a
    ·rw[if_pos (by omega),if_pos m]
    ·rw[if_neg (by omega),if_neg m]
  have BH:kids (2,es.set (a+1) (ky es a,(es.getD (a+1) e0).2))=kids (2,es):=by
   rw[gN,gN];refine List.ext_getElem? fun j=>?_;simp only[List.getElem?_map,List.getElem?_set];split
   ·rename_i e;subst e
    rw[gD,gE hi'];simp[hi',ch]
   ·rfl
  have mg:=w.merge p n (a:=a) hi' (es':=delE (es.set (a+1) (ky es a,(es.getD (a+1) e0).2)) a) (.inr ⟨rfl,rfl,rfl,rfl⟩) hc v R (by omega) (by rw[bU _ _ (by rw[o];omega),o];omega)
   (fun j=>by
    rw[show ky (delE (es.set (a+1) (ky es a,(es.getD (a+1) e0).2)) a) j=((delE (es.set (a+1) (ky es a,(es.getD (a+1) e0).2)) a).getD j e0).1 from rfl,Z];by_cases q:j<a
    ·rw[if_pos q,if_pos (by omega)];rfl
    ·rw[if_neg q]
     by_cases m:j=a
     ·rw[if_pos m,if_pos (by omega),m]
     ·rw[if_neg m,if_neg (by omega)];rfl)
   (fun j=>by
    unfold kd;rw[Z];by_cases q:j<a
    ·rw[if_pos q,if_pos q]
    ·rw[if_neg q,if_neg q]
     by_cases m:j=a
     ·rw[if_pos m,if_pos m];rfl
     ·rw[if_neg m,if_neg m])
   (fun j D=>by
    rw[bU _ _ (by rw[o];omega),o]at D;rw[Z];split
    ·exact S j (by omega)
    ·split
     ·exact S _ hi'
     ·exact S _ (by omega))
   (fun x=>by
    have:=vO (es.set (a+1) (ky es a,(es.getD (a+1) e0).2)) a x (by rw[o];omega)
    rw[E,if_neg (by omega),BH]at this;exact this)
   (fun e i=>by
    obtain⟨j,D,rfl⟩:=cH (oP i);rw[E];split
    ·exact w.ic.ar n hi'
    ·exact w.ic.ar n (by rw[o]at D;exact D)) h3
  simp only at mg
  rw[f]at mg;obtain⟨v1,v2,A,v4,v5,K,v7⟩:=mg;have ED:(delE (es.set (a+1) (ky es a,(es.getD (a+1) e0).2)) a).length=es.length-1:=by rw[bU _ _ (by rw[o];omega),o]
  have fq:(∃es',f'.n b=some (2,es')/\2<=es'.length)\/(P=[]/\∃e,f'.n b=some (2,[e])/\ch e=kd es (a+1)):=by
   by_cases q:3<=es.length
   ·exact .inl ⟨_,A,by rw[ED];omega⟩
   ·refine .inr ⟨by by_cases hP:P=[];exact hP;exact absurd (h3 hP) q,(ky es a,(es.getD (a+1) e0).2),?_,rfl⟩
    rw[A];have hl:es.length=2:=by omega
    obtain rfl:a=0:=by omega
    match es,hl with
    | [x,y],_=>rfl
  refine⟨v1,f▸aZ.mergeF ..,⟨_,_,v5⟩,v4,?_,?_,fun W=>?_,fq⟩
  ·unfold sz;rw[K];simp only[lP];omega
  ·rw[cA K]
   rw[cA hc]at V;exact V.more (fun e i=>List.mem_append_right _ i) fun c Q U X=>v7 key c Q U X
  ·by_cases q:3<=es.length
   ·exact .inl (v2 q W)
   ·rcases fq with⟨es',n1,n2⟩ | m
    ·rw[A]at n1;cases n1;rw[ED]at n2;omega
    ·exact .inr m
theorem Stp.before{f1:fZ}(s:Stp f1 g t H P b h lo hi c key)(a:aZ f f1)(hr:cJ f t H->cJ f1 t H):Stp f g t H P b h lo hi c key:=
 ⟨s.wk,a.trans s.same,s.path,s.up,s.spare,s.mem,fun q=>s.rt (hr q),s.many⟩
theorem Wk.stepDel(w:Wk f t H)(p:aO f t H P b (h+1) lo hi)(hr:cJ f t H)(h3:P≠[]->3<=sz f.n b)(M:Mem f.n (h+1) b key)(d:stepDel f b key=some (g,c)):Stp f g t H P b h lo hi c key:=by
 obtain⟨es,l,X,J⟩:=p.inner w;have Q:=Mem.at l (p.ok w.ok).1 M;have R:2<=es.length:=by
  by_cases j:P=[]
  ·rcases p.top with⟨_,q,r⟩ | ⟨q,_⟩
   ·rcases hr with hr | hr
    ·omega
    ·rw[<-q]at hr;unfold sz at hr;rw[l]at hr;exact hr
   ·rw[j]at q;cases q
  ·have:=h3 j;unfold sz at this;rw[l]at this;simp only at this;omega
 have D:P≠[]->3<=es.length:=fun j=>by have:=h3 j;unfold sz at this;rw[l]at this;exact this
 unfold Fo.stepDel at d;rw[aF l]at d;simp only at d;have E:=eJ key J;generalize bL es key=i at *;cases u:shadow f (.ai b i)with
 | none=>rw[u]at d;cases d
 | some L=>
  obtain⟨F,K⟩:=L;rw[u]at d;simp only at d;obtain⟨s,C,I,⟨e,v,G,S,N⟩,T,z,U,A,B⟩:=w.aj p l E u;obtain⟨O,V,W⟩:=w.bj p l E u;obtain⟨⟨k,n⟩,o⟩:=s.ic.live (x:=K) (by rw[z];omega);have Y:2<=n.length:=by
   have:=(I.ok s.ok).2 (by simp);unfold sz at this;rw[o]at this;exact this
  rw[aF o,aF v]at d;simp only at d;have y:=O key h Q;by_cases q:2<n.length
  ·rw[if_pos q]at d
   simp only[sJ,Prod.mk.injEq]at d;obtain⟨rfl,rfl⟩:=d;exact⟨s,B,⟨_,_,I⟩,C,by unfold sz;rw[o];exact q,y,fun q=>.inl (A q),.inl ⟨e,v,by omega⟩⟩
  ·rw[if_neg q]at d
   subst N;by_cases r:i+1<e.length
   ·rw[if_pos r]at d
    cases m:Fo.fillNext F b i (kd e i)with
    | none=>rw[m]at d;cases d
    | some f'=>
     rw[m]at d;simp only[Option.map_some,sJ,Prod.mk.injEq]at d;obtain⟨rfl,rfl⟩:=d;exact(s.fillNext C v r o z (by omega) y (fun j=>by rw[G];exact D j) m).before B A
   ·rw[if_neg r]at d
    cases m:Fo.fillLast F b i (kd e i)with
    | none=>rw[m]at d;cases d
    | some f'=>
     rw[m]at d;simp only[Option.map_some,sJ,Prod.mk.injEq]at d;obtain⟨rfl,rfl⟩:=d;obtain⟨a,rfl⟩:∃a,i=a+1:=⟨i-1,by omega⟩;exact(s.fillLast C v (by omega) r o z (by omega) y (fun j=>by rw[G];exact D j) m).before B A
theorem aFF(h:eE es lo hi)(d:a<es.length):eE (delE es a) lo hi:=by
 have b:∀j,ky (delE es a) j=if j<a then ky es j else ky es (j+1):=fun j=>by
  unfold ky;rw[iJ _ _ _ (by omega)];split<;>rfl
 have f:=bU es a d;refine⟨fun i j e c=>?_,fun j c=>?_,fun j c=>?_,by have:=h.bz;omega⟩
 ·rw[b,b]
  by_cases q:i<a
  ·rw[if_pos q];split
   ·exact h.a6 i j e (by omega)
   ·exact h.a6 i _ (by omega) (by omega)
  ·rw[if_neg q,if_neg (by omega)];exact h.a6 _ _ (by omega) (by omega)
 ·rw[b];split
  ·exact h.lo j (by omega)
  ·exact h.lo _ (by omega)
 ·rw[b];split
  ·exact h.hi j (by omega)
  ·exact h.hi _ (by omega)
theorem jW(b:Srt es){j:Nat}(c:j<es.length)(e:ky es j=key):fM es key=true/\cLt es key=j:=by
 have a:cLt es key=j:=by
  have g:¬j<cLt es key:=fun q=>by
   have:=(gZ b key c).2 q;rw[e,eI]at this;cases this
  have d:∀i,i<j->i<cLt es key:=fun i f=>(gZ b key (by omega)).1 (by rw[<-e];exact b i j f c);by_cases q:j=0
  ·omega
  ·have:=d (j-1) (by omega);omega
 exact⟨(dK es key).2 ⟨by omega,by rw[a];exact e⟩,a⟩
theorem rT:∀{h H:Nat} {f:fZ} (w:Wk f t H) {P:List Nat} {b:Nat} {lo hi:OB} (p:aO f t H P b h lo hi) (h3:P≠[]->3<=sz f.n b) (hr:cJ f t H) (hm:Mem f.n h b key) {g:fZ} (hs:delAt h f t b key=some g),
  ∃H',Wk g t H'/\cJ g t H'/\aZ f g
 | 0,H,f,w,P,b,lo,hi,p,h3,hr,hm,g,hs=>by
  obtain⟨es,l,y,v⟩:=p.leaf w;obtain⟨es',A,j,x,J⟩:=hm;rw[l]at A;cases A;unfold delAt at hs;rw[aF l]at hs;simp only[sJ]at hs;subst hs;have s:cLt es key<es.length:=by rw[(jW y.a6 x J).2];exact x
  obtain⟨d,k⟩:=w.leaf p l (aFF y s) (fun i hi'=>by
   rw[bU _ _ s]at hi';rw[iJ _ _ _ (by omega)];split
   ·exact v i (by omega)
   ·exact v _ (by omega)) (fun r=>by
   have:=h3 r;unfold sz at this;rw[l]at this;simp only at this
   rw[bU _ _ s];omega)
  exact⟨H,d,k hr,aZ.setN _ _ _⟩
 | h+1,H,f,w,P,b,lo,hi,p,h3,hr,hm,g,hs=>by
  unfold delAt at hs;cases u:stepDel f b key with
  | none=>rw[u]at hs;cases hs
  | some I=>
   obtain⟨m,c⟩:=I;rw[u]at hs;simp only at hs;have st:=w.stepDel p hr h3 hm u;obtain⟨lo',hi',z⟩:=st.path;rcases st.many with⟨es,a,n⟩ | ⟨r,e,a,n⟩
   ·rw[aF a]at hs
    simp only at hs
    rw[if_neg (by omega)]at hs;have G:cJ m t H:=by
     rcases st.rt hr with q | ⟨_,e,q,_⟩
     ·exact q
     ·rw[a]at q;cases q;simp at n
    obtain⟨H',d,k,o⟩:=rT st.wk z (fun _=>st.spare) G st.mem hs;exact⟨H',d,k,st.same.trans o⟩
   ·rw[aF a]at hs
    rw[if_pos (show([e]:List E3).length=1 from rfl)]at hs;have L:kd [e] 0=ch e:=rfl;rw[L]at hs;subst r;rcases st.up.top with⟨_,q,M⟩ | ⟨q,_⟩
    ·subst M
     rw[q]at a;have F:cu m (aB m t)=1:=by have:=(st.up.named st.wk.ic st.wk.tl b List.mem_cons_self).1;rw[q]at this;exact this
     have K:cu m (ch e)=1:=by rw[n];exact(z.named st.wk.ic st.wk.tl c List.mem_cons_self).1
     obtain⟨B,C,N,D,O,E⟩:=st.wk.cn a F K;rw[n]at B C N D O E hs;obtain⟨H',d,k,o⟩:=rT B C (fun q=>absurd rfl q) D (E key st.mem) hs;exact⟨H',d,k,(st.same.trans (aZ.fallF ..)).trans o⟩
    ·cases q
theorem pR(w:Wk f t H)(hr:cJ f t H)(o:Mem f.n H (aB f t) key)(b:bX f t H key=some g):∃H',Wk g t H'/\cJ g t H'/\aZ f g:=by
 unfold bX at b;cases a:shadow f (.root t)with
 | none=>rw[a]at b;cases b
 | some gr=>
  obtain⟨j,r⟩:=gr;rw[a]at b;simp only at b;obtain⟨w1,T,Z,A,a3,a4,B,C⟩:=w.ak a;have W:Mem j.n H r key:=by
   unfold shadow at a;have M:bN f (.root t)=aB f t:=rfl;rw[M]at a;by_cases u:own f (aB f t)
   ·rw[if_pos u]at a;cases a;exact o
   ·rw[if_neg u]at a
    by_cases n:aG f=0
    ·rw[if_pos n]at a;cases a
    ·rw[if_neg n]at a
     simp only[sJ,Prod.mk.injEq]at a;obtain⟨Q,X⟩:=a;obtain⟨O,P,v,_⟩:=aP n;obtain⟨d,s⟩:=w.ic.ao (aQ w.tl);have l:f.n (aB f t)=some d:=s;obtain⟨Y,z,_⟩:=w.ic.shadow (L:=.root t) w.tl rfl s O P v;have I:f.n (aG f)=none:=(w.ic.bb.dead _).2 v;have y:j.n=if cu f (aB f t)=1 then upd (upd f.n (aG f) (some d)) (aB f t) none else upd f.n (aG f) (some d):=by rw[<-Q];exact z
     let U:Nat->Prop:=fun x=>(∃d,f.n x=some d)/\(cu f (aB f t)=1->x≠aB f t)
     have R:∀x d,U x->f.n x=some d->∀c∈kids d,U c:=fun x d' _ i c h=>
      ⟨w.ic.af i h,fun m e=>(w.ic.aD (aQ w.tl) m).2 x d' i (by have:c=(f.r.getD t (0,0)).2.toNat:=e;rw[<-this];exact h)⟩
     have J:∀x,U x->j.n x=f.n x:=fun x ⟨⟨d',i⟩,m⟩=>by
      have p:x≠aG f:=fun e=>by rw[e,I]at i;cases i
      rw[y];split
      ·rename_i V;rw[aC _ _ (m V),aC _ _ p]
      ·rw[aC _ _ p]
     have S:j.n r=some d:=by rw[A];exact l
     rw[cA S];rw[cA l]at o;obtain⟨k,G⟩:=d;exact o.more (fun e K=>K) fun c h h' N=>Mem.frame R J _ _ ⟨w.ic.af l h,fun _ e=>w.ic.ag l (e▸h)⟩ N
  obtain⟨H',D,E,F⟩:=rT w1 T (fun q=>absurd rfl q) (B hr) W b;exact⟨H',D,E,C.trans F⟩
def dec(f:fZ)(b:Nat):fZ:={f with c:=f.c.set b (cu f b-1)}
def delN(f:fZ)(b:Nat):fZ:={f with n:=upd f.n b none}
def unname:Nat->fZ->Nat->fZ×Int
 | 0,f,b=>if 0<cu f b-1 then(dec f b,0)else(delN (dec f b) b,1)
 | h+1,f,b=>if 0<cu f b-1 then(dec f b,0)else
  let r:=(cF (f.n b)).foldl (fun a k=>((unname h a.1 k).1,a.2+(unname h a.1 k).2)) (dec f b,1)
  (delN r.1 b,r.2)
def unL(h:Nat)(l:List Nat)(a:fZ×Int):fZ×Int:=l.foldl (fun a k=>((unname h a.1 k).1,a.2+(unname h a.1 k).2)) a
theorem lQ(h k:Nat)(l:List Nat)(a:fZ×Int):unL h (k :: l) a=unL h l ((unname h a.1 k).1,a.2+(unname h a.1 k).2):=rfl
def rG:Nat->fZ->Nat->Prop
 | 0,f,b=>b<f.c.length/\∃d,f.n b=some d/\(cu f b-1<=0->kids d=[])
 | h+1,f,b=>b<f.c.length/\∃d,f.n b=some d/\(cu f b-1<=0->∀l k m,kids d=l++k :: m->rG h (unL h l (dec f b,1)).1 k)
structure Ab(f g:fZ)(A:Nat->Prop):Prop where
 c:f.c=g.c
 r:f.r=g.r
 off:∀x,¬A x->f.n x=g.n x
 on:∀x,A x->g.n x=none
 rest:f.m=g.m/\f.next=g.next/\f.gen=g.gen/\f.table=g.table
def fO(nodes:Nat->Option Nd)(n:Nat):Nat:=cX n fun x=>if(nodes x).isSome then 1 else 0
theorem sW{n:Nat}(a:b<n)(hd:nodes b=some d):fO (upd nodes b none) n+1=fO nodes n:=by
 have:=mE (n:=n) (g:=fun x=>if(nodes x).isSome then 1 else 0) (g':=fun x=>if(upd nodes b none x).isSome then 1 else 0) a (fun y c=>by simp only[aC _ _ c])
 simp only[aE,hd,Option.isSome_some,Option.isSome_none,if_true]at this;unfold fO;simpa using this
theorem nP(h:Ab f g A)(x:Nat):cu f x=cu g x:=by unfold cu;rw[h.c]
structure Un(h:Nat)(f g:fZ)(A:Nat->Prop)(ht:Nat->Nat)(l:List Nat)(E:Nat->Nat)(r:fZ×Int)(n0:Int):Prop where
 ex:∃g',Ab r.1 g' A/\IP g' ht/\(∀x,x<g'.c.length->df g' x=((E x-l.count x:Nat):Int))/\g'.c.length=g.c.length/\(∀x,g'.n x=g.n x\/g'.n x=none)/\r.2=n0+((fO g.n g.c.length:Int) -(fO g'.n g.c.length:Int))/\g'.r=g.r/\g'.m=g.m/\g'.next=g.next/\g'.gen=g.gen/\g'.table=g.table
theorem aDA(one_ok:∀{f g:fZ} {A:Nat->Prop} {ht:Nat->Nat} {E:Nat->Nat} {b:Nat},Ab f g A->IP g ht->(∀x,x<g.c.length->df g x=(E x:Int))->b<g.c.length->1<=E b->ht b=h->rG h f b/\Un h f g A ht [b] E (unname h f b) 0):
  ∀(l:List Nat) {f g:fZ} {A:Nat->Prop} {ht:Nat->Nat} {E:Nat->Nat} (n0:Int),Ab f g A->IP g ht->(∀x,x<g.c.length->df g x=(E x:Int))->(∀b∈l,b<g.c.length/\ht b=h)->(∀x,l.count x<=E x)->
   (∀l1 k m,l=l1++k :: m->rG h (unL h l1 (f,n0)).1 k)/\Un h f g A ht l E (unL h l (f,n0)) n0
 | [],f,g,A,ht,E,n0,j,t,p,s,r=>⟨fun l1 k m e=>by simp at e,⟨g,j,t,fun x a=>by simpa using p x a,rfl,fun _=>.inl rfl,by simp[unL],rfl,rfl,rfl,rfl,rfl⟩⟩
 | b :: l,f,g,A,ht,E,n0,j,t,p,s,r=>by
  have v:=s b List.mem_cons_self;have w:1<=E b:=by have:=r b;rw[List.count_cons]at this;simp at this;omega
  obtain⟨U,⟨g',z,B,C,i,D,F,G,H,I,c,d⟩⟩:=one_ok j t p v.1 w v.2;have S:∀x,([b]:List Nat).count x=one b x:=fun x=>by simp only[List.count_cons,List.count_nil,beq_iff_eq,one];omega
  have u:∀x,(b :: l).count x=l.count x+one b x:=fun x=>by simp only[List.count_cons,beq_iff_eq,one]
  obtain⟨r1,⟨T,J,K,L,M,N,O,P,Q,R,n,o⟩⟩:=aDA one_ok l (E:=fun x=>E x-one b x) (n0+(unname h f b).2) z B (fun x a=>by rw[C x a,S]) (fun x a=>by rw[i];exact s x (List.mem_cons_of_mem _ a)) (fun x=>by have:=r x;rw[u]at this;omega);refine⟨fun l1 k m e=>?_,⟨T,?_,K,fun x a=>?_,M.trans i,fun x=>?_,?_,P.trans G,Q.trans H,R.trans I,n.trans c,o.trans d⟩⟩
  ·cases l1 with
   | nil=>simp only[List.nil_append,List.cons.injEq]at e;rw[<-e.1];exact U
   | cons y l1=>
    simp only[List.cons_append,List.cons.injEq]at e;obtain⟨rfl,e⟩:=e;rw[lQ];exact r1 l1 k m e
  ·rw[lQ];exact J
  ·rw[L x a,u];congr 1;omega
  ·rcases N x with q | q
   ·rw[q];exact D x
   ·exact .inr q
  ·rw[lQ,O,F,i];omega
theorem IP.eu(h:IP g ht)(d:b<g.c.length)(h2:1<cu g b):IP (dec g b) ht:=by
 have a:(dec g b).c.length=g.c.length:=by simp[dec]
 have c:∀x,cu (dec g b) x=if b=x then cu g b-1 else cu g x:=fun x=>fL g b x _ d;refine⟨by rw[a];exact h.n8,by rw[a];exact h.al,by rw[a];exact h.len,⟨fun x=>?_,fun x=>?_⟩,h.two,?_,?_,h.ht⟩
 ·rw[c];split
  ·rename_i e;subst e
   have:=h.bb.dead b
   constructor
   ·intro q;have:=this.1 q;omega
   ·intro q;omega
  ·exact h.bb.dead x
 ·rw[c];have:=h.bb.pos x;split<;>omega
 ·intro r f;rw[a];exact h.rb r f
 ·intro x e i;rw[a];exact h.kb x e i
theorem aNY(a:b<g.c.length)(x:Nat):df (dec g b) x=df g x -(one b x:Int):=by
 have d:(dec g b).c.length=g.c.length:=by simp[dec]
 have c:cu (dec g b) x=if b=x then cu g b-1 else cu g x:=fL g b x _ a;unfold df;rw[d,c];show _ -((rc g.r x+deg g.n g.c.length x:Nat):Int)=_
 by_cases e:b=x
 ·subst e;rw[if_pos rfl,bV];omega
 ·rw[if_neg e,fA e];omega
theorem kH(a:Ab f g A)(l:IP g ht)(k:∀x,x<g.c.length->df g x=(E x:Int))(c:b<g.c.length)(r:1<=E b):
  ∃d,g.n b=some d/\¬A b/\f.n b=some d/\(0<cu g b-1->Un h f g A ht [b] E (dec f b,0) 0):=by
 have n:=k b c;have o:∃d,g.n b=some d:=by
  cases e:g.n b with
  | some d=>exact⟨d,rfl⟩
  | none=>have:=(l.bb.dead b).1 e;unfold df at n;omega
 obtain⟨d,i⟩:=o;have j:¬A b:=fun q=>by have:=a.on b q;rw[i]at this;cases this
 refine⟨d,i,j,(a.off b j).trans i,fun s=>⟨dec g b,⟨?_,a.r,a.off,a.on,a.rest⟩,l.eu c (by omega),fun x p=>?_,by simp[dec],fun _=>.inl rfl,?_,rfl,rfl,rfl,rfl,rfl⟩⟩
 ·show f.c.set b _=g.c.set b _;rw[nP a b,a.c]
 ·have m:x<g.c.length:=by simpa [dec] using p
  rw[aNY c,k x m];simp only[List.count_nil,List.count_cons,beq_iff_eq,one];by_cases e:b=x
  ·subst e;simp;omega
  ·simp[e]
 ·show(0:Int)=0+_
  have e:(dec g b).n=g.n:=rfl;rw[e];omega
theorem lR(a:Ab f g A)(l:IP g ht)(j:∀x,x<g.c.length->df g x=(E x:Int))(i:b<g.c.length)(m:1<=E b)(hd:g.n b=some d)(hc:¬0<cu g b-1):
  Ab (dec f b) (freeB g b) (fun x=>A x\/x=b)/\IP (freeB g b) ht/\(∀x,x<g.c.length->df (freeB g b) x=(((E x-one b x)+(kids d).count x:Nat):Int))/\cu g b=1:=by
 have k:=j b i;have h:cu g b=1:=by unfold df at k;omega
 refine⟨⟨?_,a.r,fun x c=>?_,fun x c=>?_,a.rest⟩,l.freeB i,fun x c=>?_,h⟩
 ·show f.c.set b _=g.c.set b _;rw[nP a b,a.c,h];rfl
 ·show f.n x=upd g.n b none x
  rw[aC _ _ (fun e=>c (.inr e))];exact a.off x fun q=>c (.inl q)
 ·show upd g.n b none x=none
  by_cases e:x=b
  ·rw[e,aE]
  ·rw[aC _ _ e];exact a.on x (c.resolve_right e)
 ·rw[rX i hd h,j x c]
  by_cases e:b=x
  ·subst e;rw[bV];omega
  ·rw[fA e];omega
theorem wE:∀{h:Nat} {f g:fZ} {A:Nat->Prop} {ht:Nat->Nat} {E:Nat->Nat} {b:Nat},Ab f g A->IP g ht->(∀x,x<g.c.length->df g x=(E x:Int))->b<g.c.length->1<=E b->ht b=h->
  rG h f b/\Un h f g A ht [b] E (unname h f b) 0:=by
 intro h;induction h with
 | zero=>
  intro f g A ht E b i p u n s T;obtain⟨d,o,U,v,dec_case⟩:=kH i p u n s;have H:kids d=[]:=by
   refine List.eq_nil_iff_forall_not_mem.2 fun c j=>?_;rcases p.ht b d o with⟨q,_⟩ | ⟨_,q⟩
   ·simp[kids,q]at j
   ·have:=q c j;omega
  refine⟨⟨by rw[i.c];exact n,d,v,fun _=>H⟩,?_⟩;unfold unname;rw[nP i b];by_cases j:0<cu g b-1
  ·rw[if_pos j];exact dec_case j
  ·rw[if_neg j]
   obtain⟨r,C,D,S⟩:=lR i p u n s o j;refine⟨freeB g b,⟨r.c,r.r,fun x a=>?_,fun x a=>r.on x (.inl a),r.rest⟩,C,fun x a=>?_,by simp[freeB],fun x=>?_,?_,rfl,rfl,rfl,rfl,rfl⟩
   ·show upd f.n b none x=upd g.n b none x
    by_cases e:x=b
    ·subst e;rw[aE,aE]
    ·rw[aC _ _ e,aC _ _ e];exact i.off x a
   ·have R:x<g.c.length:=by simpa [freeB] using a
    rw[D x R,H];simp only[List.count_nil,List.count_cons,beq_iff_eq,one];congr 1;omega
   ·by_cases e:x=b
    ·exact .inr (by show upd g.n b none x=none;rw[e,aE])
    ·exact .inl (aC _ _ e)
   ·show(1:Int)=_
    have:=sW n o
    have e:(freeB g b).n=upd g.n b none:=rfl;rw[e];omega
 | succ h ih=>
  intro f g A ht E b i p u n s T;obtain⟨d,o,U,v,dec_case⟩:=kH i p u n s;by_cases j:0<cu g b-1
  ·refine⟨⟨by rw[i.c];exact n,d,v,fun q=>by rw[nP i b]at q;omega⟩,?_⟩
   unfold unname;rw[nP i b,if_pos j];exact dec_case j
  ·obtain⟨r,C,D,S⟩:=lR i p u n s o j
   have w:(freeB g b).c.length=g.c.length:=by simp[freeB]
   have I:∀x,x <(freeB g b).c.length->df (freeB g b) x=(((E x-one b x)+(kids d).count x:Nat):Int):=fun x a=>D x (by rw[w]at a;exact a);obtain⟨r1,⟨F,t,J,K,L,G,M,N,O,P,y,z⟩⟩:=aDA ih (kids d) (E:=fun x=>(E x-one b x)+(kids d).count x) 1 r C I (fun c B=>⟨by rw[w];exact(p.kb b d o).dx B,by
    rcases p.ht b d o with⟨q,_⟩ | ⟨_,q⟩
    ·simp[kids,q]at B
    ·have:=q c B;omega⟩) (fun x=>by omega)
   refine⟨⟨by rw[i.c];exact n,d,v,fun _ l k m e=>r1 l k m e⟩,?_⟩;unfold unname;rw[nP i b,if_neg j,v];have Q:F.n b=none:=by
    rcases G b with q | q
    ·rw[q];exact aE _ _ _
    ·exact q
   refine⟨F,⟨t.c,t.r,fun x a=>?_,fun x a=>t.on x (.inl a),t.rest⟩,J,fun x a=>?_,L.trans w,fun x=>?_,?_,N,O,P,y,z⟩
   ·show upd (unL h (kids d) (dec f b,1)).1.n b none x=F.n x
    by_cases e:x=b
    ·subst e;rw[aE,Q]
    ·rw[aC _ _ e];exact t.off x fun q=>by rcases q with q | q;exact a q;exact e q
   ·rw[K x a]
    simp only[List.count_nil,List.count_cons,beq_iff_eq,one];congr 1;omega
   ·rcases G x with q | q
    ·rw[q]
     by_cases e:x=b
     ·exact .inr (by rw[e];exact aE _ _ _)
     ·exact .inl (aC _ _ e)
    ·exact .inr q
   ·show(unL h (kids d) (dec f b,1)).2=_
    rw[M,w];have:=sW n o;have e:(freeB g b).n=upd g.n b none:=rfl;rw[e];omega
def rid(f:fZ)(t:Nat):Int:=(f.r.getD t (0,0)).1
structure Inv(f:fZ):Prop where
 ic:IC f
 ne:0<f.r.length
 br:f.r.length<=16
 ok:∀t,t<f.r.length->∃h,Ok f.n h (aB f t) none none/\(h=0\/2<=sz f.n (aB f t))
 ids:∀i j,i<j->j<f.r.length->rid f i<rid f j
 en:∀i,i<f.r.length->0<=rid f i/\rid f i<f.next
 nx:1<=f.next/\f.next<=65535
 gn:1<=f.gen/\f.gen<=1099511627776
 dy:∀b,b<2->co f b=0
 db:∀b,0<=co f b/\co f b<=65535
theorem Inv.wk(h:Inv f)(ht:t<f.r.length):∃H,Wk f t H/\cJ f t H:=by
 obtain⟨H,a,b⟩:=h.ok t ht;exact⟨H,⟨h.ic,ht,a,fun u c _=>h.ok u c⟩,b⟩
theorem tS(s:aZ f g)(t:Nat):rid g t=rid f t:=by
 unfold rid;have h:∀l:List (Int×Int),(l.getD t (0,0)).1=(l.map Prod.fst).getD t 0:=fun l=>by
  simp only[gD,List.getElem?_map];cases l[t]?<;>rfl
 rw[h,h,s.ids]
theorem Inv.after(h:Inv f)(w:Wk g t H)(r:cJ g t H)(s:aZ f g):Inv g:=by
 have a:=s.len;have c:∀b,co g b=co f b:=fun b=>by unfold co;rw[s.m]
 refine⟨w.ic,by rw[a];exact h.ne,by rw[a];exact h.br,fun u m=>?_,fun i j n l=>?_,fun i k=>?_,by rw[s.next];exact h.nx,by rw[s.gen];exact h.gn,fun b d=>by rw[c];exact h.dy b d,fun b=>by rw[c];exact h.db b⟩
 ·by_cases e:u=t
  ·subst e;exact⟨H,w.ok,r⟩
  ·exact w.ee u m e
 ·rw[tS s,tS s];exact h.ids i j n (by rw[<-a];exact l)
 ·rw[tS s,s.next];exact h.en i (by rw[<-a];exact k)
def cS(f:fZ)(t:Nat):fZ:={f with r:=f.r++[(f.next,(f.r.getD t (0,0)).2)],next:=f.next+1,c:=f.c.set (aB f t) (cu f (aB f t)+1)}
theorem Inv.clone(h:Inv f)(ht:t<f.r.length)(I:f.r.length<16)(hn:f.next<65535):Inv (cS f t):=by
 obtain⟨d,B⟩:=h.ic.ao (aQ ht);have l:f.n (aB f t)=some d:=B;have A:=h.ic.lt l;have a:(cS f t).c.length=f.c.length:=by simp[cS]
 have n:∀x,cu (cS f t) x=if aB f t=x then cu f (aB f t)+1 else cu f x:=fun x=>fL f _ x _ A;have o:(cS f t).r.length=f.r.length+1:=by simp[cS]
 have p:∀u,(cS f t).r.getD u (0,0)=if u<f.r.length then f.r.getD u (0,0)else if u=f.r.length then(f.next,(f.r.getD t (0,0)).2)else(0,0):=fun u=>by
  show(f.r++[_]).getD u (0,0)=_
  rw[dC];split
  ·rfl
  ·split
   ·rename_i e;subst e;simp
   ·rename_i F G
    obtain⟨m,C⟩:∃m,u-f.r.length=m+1:=⟨u-f.r.length-1,by omega⟩;rw[C];rfl
 have y:∀u,u<f.r.length+1->aB (cS f t) u=aB f (if u<f.r.length then u else t):=fun u c=>by
  unfold aB;rw[p];by_cases e:u<f.r.length
  ·rw[if_pos e,if_pos e]
  ·rw[if_neg e,if_pos (by omega),if_neg e]
 have k:∀u,u<f.r.length+1->rid (cS f t) u=if u<f.r.length then rid f u else f.next:=fun u c=>by
  unfold rid;rw[p];by_cases e:u<f.r.length
  ·rw[if_pos e,if_pos e]
  ·rw[if_neg e,if_pos (by omega),if_neg e]
 have H:=h.nx;refine⟨⟨by rw[a];exact h.ic.n8,by rw[a];exact h.ic.al,by rw[a];exact h.ic.len,fun x g=>?_,⟨fun x=>?_,fun x=>?_⟩,h.ic.two,fun r D=>?_,fun x e g=>?_,h.ic.ht⟩,by omega,by omega,fun u c=>?_,fun i j E v=>?_,fun i s=>?_,?_,h.gn,h.dy,h.db⟩
 ·rw[a]at g
  have z:=h.ic.D0 x g;unfold df at z |-;rw[a,n];have w:rc (cS f t).r x=rc f.r x+one (aB f t) x:=by
   unfold rc;show((f.r++[(f.next,(f.r.getD t (0,0)).2)]).map fun r=>r.2.toNat).count x=_
   rw[List.map_append,List.count_append];congr 1;show([aB f t]:List Nat).count x=_
   simp[List.count_cons,one]
  rw[w];show _ -((_+deg f.n _ x:Nat):Int)=0
  by_cases e:aB f t=x
  ·subst e;rw[if_pos rfl,bV];omega
  ·rw[if_neg e,fA e];omega
 ·rw[n];split
  ·rename_i e;subst e
   show f.n _=none↔_
   rw[l];have:=h.ic.a7 l;constructor
   ·intro q;cases q
   ·intro q;omega
  ·exact h.ic.bb.dead x
 ·rw[n];have:=h.ic.bb.pos x;have:=h.ic.bb.pos (aB f t);split<;>omega
 ·rw[a]
  have b:r∈f.r++[(f.next,(f.r.getD t (0,0)).2)]:=D;rcases List.mem_append.1 b with b | b
  ·exact h.ic.rb r b
  ·simp only[List.mem_cons,List.not_mem_nil,or_false]at b
   subst b;exact(h.ic.rb (f.r.getD t (0,0)) (aQ ht))
 ·rw[a];exact h.ic.kb x e g
 ·rw[o]at c
  rw[y u c];split
  ·exact h.ok u (by assumption)
  ·exact h.ok t ht
 ·rw[o]at v
  rw[k i (by omega),k j v,if_pos (by omega)];split
  ·exact h.ids i j E (by assumption)
  ·exact(h.en i (by omega)).2
 ·rw[o]at s
  rw[k i s];show _/\_<f.next+1
  split
  ·have:=h.en i (by assumption);omega
  ·omega
 ·show 1<=f.next+1/\f.next+1<=65535;omega
def fU(f:fZ)(t:Nat):fZ:={f with r:=delE f.r t}
def drop(f:fZ)(t H:Nat):fZ×Int:=unname H (fU f t) (aB f t)
theorem aPD(h:Ab f g fun _=>False):f=g:=by
 obtain⟨a,b,c,k,d,e,i,j⟩:=h;cases f;cases g;simp only at *;subst a;subst b;subst d;subst e;subst i;subst j;congr;exact funext fun x=>c x (fun q=>q)
theorem nY(c:Hts nodes ht):∀{h b:Nat} {lo hi:OB},Ok nodes h b lo hi->ht b=h
 | 0,b,lo,hi,d=>by
  obtain⟨es,a,_⟩:=d;rcases c b _ a with⟨_,q⟩ | ⟨q,_⟩
  ·exact q
  ·simp at q
 | h+1,b,lo,hi,d=>by
  obtain⟨es,a,_,f,_,g⟩:=d;have e:0<es.length:=List.length_pos_iff.2 f;have:=nY c (g 0 e).2;have:=eR (c b _ a) (aR e);omega
theorem nT(h:Inv f)(ht:t<f.r.length)(h1:1<f.r.length)(hk:Ok f.n H (aB f t) none none):
  Inv (drop f t H).1/\rG H (fU f t) (aB f t)/\(drop f t H).2=(fO f.n f.c.length:Int) -(fO (drop f t H).1.n f.c.length:Int)/\(drop f t H).1.c.length=f.c.length/\(drop f t H).1.r=delE f.r t/\
   (drop f t H).1.next=f.next/\(drop f t H).1.gen=f.gen/\(drop f t H).1.m=f.m/\(drop f t H).1.table=f.table/\(∀x,(drop f t H).1.n x=f.n x\/(drop f t H).1.n x=none):=by
 obtain⟨xd,a⟩:=h.ic.ip;have kv:∀r∈delE f.r t,r∈f.r:=fun r B=>oP B;have K:IP (fU f t) xd:=⟨a.n8,a.al,a.len,⟨a.bb.dead,a.bb.pos⟩,a.two,fun r B=>a.rb r (kv r B),a.kb,a.ht⟩;obtain⟨d,hd⟩:=h.ic.ao (aQ ht);have hb:aB f t<f.c.length:=h.ic.lt (show f.n (aB f t)=some d from hd);have Z:∀x,x <(fU f t).c.length->df (fU f t) x=(one (aB f t) x:Int):=fun x k=>by
  have X:=h.ic.D0 x k;have z:=fV (f.r.map fun r=>r.2.toNat) t x (by simpa using ht);have V:(f.r.map fun r=>r.2.toNat).getD t 0=aB f t:=by simp[aB,gD,ht]
  rw[V]at z;have e:rc (fU f t).r x=(delE (f.r.map fun r=>r.2.toNat) t).count x:=by
   unfold rc fU;congr 1;simp[delE,List.map_take,List.map_drop]
  unfold df at X |-;rw[e];show cu f x -((_+deg f.n f.c.length x:Nat):Int)=_
  have:rc f.r x=(f.r.map fun r=>r.2.toNat).count x:=rfl
  omega
 obtain⟨s1,⟨g,L,M,N,O,w,P,Q,E,y,o,v⟩⟩:=wE (h:=H) (f:=fU f t) (g:=fU f t) (A:=fun _=>False) ⟨rfl,rfl,fun _ _=>rfl,fun _ q=>q.elim,rfl,rfl,rfl,rfl⟩ K Z hb (by rw[bV];exact nR _) (nY a.ht hk);have hg:(drop f t H).1=g:=aPD L;have Y:(drop f t H).2=0+((fO f.n f.c.length:Int) -(fO g.n f.c.length:Int)):=P;have R:g.c.length=f.c.length:=O;have l:g.r=delE f.r t:=Q;have C:IC g:=M.ic fun x k=>by
  rw[N x k];simp only[List.count_nil,List.count_cons,beq_iff_eq,one];omega
 have m:=bU f.r t ht;have F:∀u,g.r.getD u (0,0)=f.r.getD (if u<t then u else u+1) (0,0):=fun u=>by
  rw[l,iJ _ _ _ (by omega)];split<;>rfl
 have U:∀u,aB g u=aB f (if u<t then u else u+1):=fun u=>by unfold aB;rw[F]
 have s:∀u,rid g u=rid f (if u<t then u else u+1):=fun u=>by unfold rid;rw[F]
 have D:∀b,co g b=co f b:=fun b=>by unfold co;rw[E];rfl
 have mn:∀x d,(∃d,g.n x=some d)->f.n x=some d->∀c∈kids d,∃d,g.n c=some d:=fun x d ⟨d',k⟩ S c z=>by
  have:g.n x=some d:=by
   rcases w x with q | q
   ·rw[q];exact S
   ·rw[q]at k;cases k
  exact C.af this z
 have G:∀x,(∃d,g.n x=some d)->g.n x=f.n x:=fun x ⟨d',k⟩=>by
  rcases w x with q | q
  ·exact q
  ·rw[q]at k;cases k
 rw[hg];refine⟨⟨C,by rw[l,m];omega,by rw[l,m];have:=h.br;omega,fun u I=>?_,fun i j i8 hj=>?_,fun i hi=>?_,by rw[y];exact h.nx,by rw[o];exact h.gn,fun b xk=>by rw[D];exact h.dy b xk,fun b=>by rw[D];exact h.db b⟩,s1,by rw[Y];omega,R,l,y,o,E,v,w⟩
 ·rw[l,m]at I
  have T:=C.ao (aQ (f:=g) (t:=u) (by rw[l,m];exact I));have p:∃d,g.n (aB g u)=some d:=T;rw[U]at p |-;obtain⟨W,k1,n⟩:=h.ok (if u<t then u else u+1) (by split<;>omega);refine⟨W,Ok.frame mn G _ _ _ _ p k1,?_⟩;rcases n with n | n
  ·exact .inl n
  ·refine .inr ?_
   unfold sz at n |-;rw[G _ p];exact n
 ·rw[l,m]at hj
  rw[s,s];by_cases q:i<t
  ·rw[if_pos q]
   by_cases J:j<t
   ·rw[if_pos J];exact h.ids i j i8 (by omega)
   ·rw[if_neg J];exact h.ids i _ (by omega) (by omega)
  ·rw[if_neg q,if_neg (by omega)];exact h.ids _ _ (by omega) (by omega)
 ·rw[l,m]at hi
  rw[s,y];exact h.en _ (by split<;>omega)
def mT(nodes:Nat->Option Nd)(b:Nat):List E3:=((nodes b).getD (0,[])).2
theorem cZ(h:nodes b=some d):mT nodes b=d.2:=by simp[mT,h]
def bJ(nodes:Nat->Option Nd):Nat->Nat->List (ByteArray×ByteArray)
 | 0,b=>(mT nodes b).map fun e=>(e.1,e.2.1)
 | h+1,b=>(mT nodes b).flatMap fun e=>bJ nodes h (ch e)
def find(nodes:Nat->Option Nd):Nat->Nat->ByteArray->OB
 | 0,b,key=>if fM (mT nodes b) key=true then some ((mT nodes b).getD (cLt (mT nodes b) key) e0).2.1 else none
 | h+1,b,key=>find nodes h (kd (mT nodes b) (bL (mT nodes b) key)) key
def fG(l:List (ByteArray×ByteArray))(key:ByteArray):OB:=(l.find? fun p=>p.1.toList == key.toList).map fun p=>p.2
theorem eO:∀{h b:Nat} {lo hi:OB},Ok nodes h b lo hi->∀p∈bJ nodes h b,loR lo p.1/\hiR hi p.1
 | 0,b,lo,hi,k,p,a=>by
  obtain⟨es,g,c,_⟩:=k;simp only[bJ,cZ g,List.mem_map]at a;obtain⟨e,i,rfl⟩:=a;obtain⟨j,d,rfl⟩:=cH i;exact⟨c.lo j d,c.hi j d⟩
 | h+1,b,lo,hi,k,p,a=>by
  obtain⟨es,g,c,_,_,m⟩:=k;simp only[bJ,cZ g,List.mem_flatMap]at a;obtain⟨e,i,a⟩:=a;obtain⟨j,d,rfl⟩:=cH i;obtain⟨n,f⟩:=eO (m j d).2 p a;constructor
  ·cases lo with
   | none=>trivial
   | some l=>exact gO (c.lo j d) n
  ·by_cases q:j+1<es.length
   ·rw[cN _ q]at f;exact sN f (c.hi _ q)
   ·rw[eT _ q]at f;exact f
theorem jB(h:∀p∈l,p.1≠key):fG (l++m) key=fG m key:=by
 unfold fG;rw[List.find?_append];have:l.find? (fun p=>p.1.toList == key.toList)=none:=List.find?_eq_none.2 fun p a q=>h p a (gV (by simpa using q));rw[this];rfl
theorem sX(h:∀p∈l,p.1≠key):fG l key=none:=by
 unfold fG;have:l.find? (fun p=>p.1.toList == key.toList)=none:=List.find?_eq_none.2 fun p a q=>h p a (gV (by simpa using q));rw[this];rfl
theorem oO(h:∀p∈m,p.1≠key):fG (l++m) key=fG l key:=by
 cases e:fG l key with
 | none=>
  have:fG (l++m) key=fG m key:=by
   unfold fG at e |-;rw[List.find?_append];have e':l.find? (fun p=>p.1.toList == key.toList)=none:=by simpa using e
   rw[e'];rfl
  rw[this];exact sX h
 | some v=>
  unfold fG at e |-;rw[List.find?_append];cases e':l.find? (fun p=>p.1.toList == key.toList)with
  | none=>rw[e']at e;cases e
  | some p=>rw[e']at e;rw[Option.some_or];exact e
theorem sG{α:Type}(es:List E3)(g:E3->List α)(a:i<es.length):es.flatMap g=(es.take i).flatMap g++(g (es.getD i e0)++(es.drop (i+1)).flatMap g):=by
 have:es=es.take i++(es.getD i e0 :: es.drop (i+1)):=by
  have b:es.drop i=es.getD i e0 :: es.drop (i+1):=by
   rw[gD,gE a];exact List.drop_eq_getElem_cons a
  rw[<-b,List.take_append_drop]
 conv=>lhs;rw[this]
 rw[List.flatMap_append,List.flatMap_cons]
theorem sD{key:ByteArray}:∀{h b:Nat} {lo hi:OB},Ok nodes h b lo hi->find nodes h b key=fG (bJ nodes h b) key
 | 0,b,lo,hi,s=>by
  obtain⟨es,n,l,_⟩:=s;simp only[find,bJ,cZ n];by_cases m:fM es key=true
  ·rw[if_pos m]
   obtain⟨t,x⟩:=(dK es key).1 m;generalize cLt es key=i at *;have A:es.map (fun e=>(e.1,e.2.1))=(es.take i).map (fun e=>(e.1,e.2.1))++((es.getD i e0).1,(es.getD i e0).2.1) ::(es.drop (i+1)).map (fun e=>(e.1,e.2.1)):=by
    have z:es.drop i=es.getD i e0 :: es.drop (i+1):=by
     rw[gD,gE t];exact List.drop_eq_getElem_cons t
    rw[<-List.map_cons (f:=fun e:E3=>(e.1,e.2.1)),<-z,<-List.map_append,List.take_append_drop]
   rw[A,jB]
   ·unfold fG
    have:((es.getD i e0).1.toList == key.toList)=true:=by rw[show(es.getD i e0).1=key from x];simp
    rw[List.find?_cons_of_pos (p:=fun p:ByteArray×ByteArray=>p.1.toList == key.toList) (a:=((es.getD i e0).1,(es.getD i e0).2.1)) this];rfl
   ·intro p c q
    obtain⟨e,d,rfl⟩:=List.mem_map.1 c;obtain⟨j,g,rfl⟩:=List.mem_take_iff_getElem.1 d;have:=l.a6 j i (by omega) t;have o:ky es j=es[j].1:=by unfold ky;rw[gD,gE (by omega)];rfl
    rw[x,o,q,eI]at this;cases this
  ·rw[if_neg m]
   refine(sX fun p c q=>?_).symm;obtain⟨e,d,rfl⟩:=List.mem_map.1 c;obtain⟨j,g,rfl⟩:=cH d;exact m (jW l.a6 g q).1
 | h+1,b,lo,hi,s=>by
  obtain⟨es,n,l,o,C,u⟩:=s;simp only[find,bJ,cZ n];have v:=eJ key o;have ih:=sD (key:=key) (u _ v).2;rw[ih,sG es _ v];have k:∀j,j<es.length->j≠bL es key->∀p∈bJ nodes h (kd es j),p.1≠key:=fun j g y p c q=>by
   obtain⟨w,r⟩:=eO (u j g).2 p c;rw[q]at w r;exact y (aDP l.a6 key g w fun B=>by rw[cN _ B]at r;exact r).symm
  rw[jB,oO]
  ·rfl
  ·intro p c
   obtain⟨e,d,c⟩:=List.mem_flatMap.1 c;obtain⟨j,g,rfl⟩:=List.mem_drop_iff_getElem.1 d;have:es[bL es key+1+j]=es.getD (bL es key+1+j) e0:=by rw[gD,gE (by omega)];rfl
   rw[this]at c;exact k _ (by omega) (by omega) p c
  ·intro p c
   obtain⟨e,d,c⟩:=List.mem_flatMap.1 c;obtain⟨j,g,rfl⟩:=List.mem_take_iff_getElem.1 d;have:es[j]=es.getD j e0:=by rw[gD,gE (by omega)];rfl
   rw[this]at c;exact k _ (by omega) (by omega) p c
theorem jM{v:ByteArray}:∀{h b:Nat} {lo hi:OB},Ok nodes h b lo hi->find nodes h b key=some v->Mem nodes h b key
 | 0,b,lo,hi,d,a=>by
  obtain⟨es,c,g,_⟩:=d;simp only[find,cZ c]at a;by_cases f:fM es key=true
  ·obtain⟨k,l⟩:=(dK es key).1 f
   exact⟨es,c,_,k,l⟩
  ·rw[if_neg f]at a;cases a
 | h+1,b,lo,hi,d,a=>by
  obtain⟨es,c,g,i,m,j⟩:=d;simp only[find,cZ c]at a;have e:=eJ key i;exact⟨es,c,_,e,jM (j _ e).2 a⟩
theorem oD:∀{h b:Nat} {lo hi:OB},Ok nodes h b lo hi->(bJ nodes h b).Pairwise fun p q=>kl p.1 q.1=true
 | 0,b,lo,hi,n=>by
  obtain⟨es,k,l,_⟩:=n;simp only[bJ,cZ k];rw[List.pairwise_map];rw[List.pairwise_iff_getElem];intro i j hi c s;have:=l.a6 i j s c;have g:∀i (h:i<es.length),ky es i=es[i].1:=fun i h=>by unfold ky;rw[gD,gE h];rfl
  rw[g i hi,g j c]at this;exact this
 | h+1,b,lo,hi,n=>by
  obtain⟨es,k,l,v,w,m⟩:=n;simp only[bJ,cZ k];rw[List.pairwise_flatMap];have g:∀i (h:i<es.length),es[i]=es.getD i e0:=fun i h=>by rw[gD,gE h];rfl
  refine⟨fun e u=>?_,?_⟩
  ·obtain⟨j,c,rfl⟩:=cH u
   exact oD (m j c).2
  ·rw[List.pairwise_iff_getElem]
   intro i j hi c s p o q r;rw[g i hi]at o;rw[g j c]at r;have a:=(eO (m i hi).2 p o).2;have t:=(eO (m j c).2 q r).1;rw[cN _ (by omega)]at a;have f:kl p.1 (ky es (i+1))=true:=a;have d:kl q.1 (ky es j)=false:=t;by_cases e:i+1=j
   ·rw[e]at f;exact lE f d
   ·exact lE (kM f (l.a6 (i+1) j (by omega) c)) d
