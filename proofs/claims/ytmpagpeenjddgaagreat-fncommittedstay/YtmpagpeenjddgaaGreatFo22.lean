import Derived.Test.YtmpagpeenjddgaaGreatFo18
set_option linter.all false
namespace Go.Proofs.YtmpagpeenjddgaaGreat.Fo
variable{key val:ByteArray}{k:Int}{l m:List (ByteArray×ByteArray)}{es:List E3}{P:List Nat}{H b c h i t:Nat}{K:Nat->List Nat}{ht:Nat->Nat}{nodes nodes':Nat->Option Nd}{d:Nd}{hi lo:OB}{f f' f0 g:fZ}
def rid(f:fZ)(t:Nat):Int:=(f.r.getD t (0,0)).1
structure Inv(f:fZ):Prop where
 ic:IC f
 ne:0<f.r.length
 bq:f.r.length<=16
 ok:∀t,t<f.r.length->∃h,Ok f.n h (aB f t) none none/\(h=0\/2<=sz f.n (aB f t))
 ids:∀i j,i<j->j<f.r.length->rid f i<rid f j
 ek:∀i,i<f.r.length->0<=rid f i/\rid f i<f.next
 nx:1<=f.next/\f.next<=65535
 gn:1<=f.gen/\f.gen<=1099511627776
 eh:∀b,b<2->co f b=0
 dd:∀b,0<=co f b/\co f b<=65535
theorem Inv.wk(h:Inv f)(ht:t<f.r.length):∃H,Wk f t H/\cI f t H:=by
 obtain⟨H,a,b⟩:=h.ok t ht;exact⟨H,⟨h.ic,ht,a,fun u c _=>h.ok u c⟩,b⟩
theorem tQ(s:aX f g)(t:Nat):rid g t=rid f t:=by
 unfold rid;have h:∀l:List (Int×Int),(l.getD t (0,0)).1=(l.map Prod.fst).getD t 0:=fun l=>by
  simp only[gD,List.getElem?_map];cases l[t]?<;>rfl
 rw[h,h,s.ids]
theorem Inv.after(h:Inv f)(w:Wk g t H)(r:cI g t H)(s:aX f g):Inv g:=by
 have a:=s.len;have c:∀b,co g b=co f b:=fun b=>by unfold co;rw[s.m]
 refine⟨w.ic,by rw[a];exact h.ne,by rw[a];exact h.bq,fun u m=>?_,fun i j n l=>?_,fun i k=>?_,by rw[s.next];exact h.nx,by rw[s.gen];exact h.gn,fun b d=>by rw[c];exact h.eh b d,fun b=>by rw[c];exact h.dd b⟩
 ·by_cases e:u=t
  ·subst e;exact⟨H,w.ok,r⟩
  ·exact w.eb u m e
 ·rw[tQ s,tQ s];exact h.ids i j n (by rw[<-a];exact l)
 ·rw[tQ s,s.next];exact h.ek i (by rw[<-a];exact k)
def cU(f:fZ)(t:Nat):fZ:={f with r:=f.r++[(f.next,(f.r.getD t (0,0)).2)],next:=f.next+1,c:=f.c.set (aB f t) (cu f (aB f t)+1)}
theorem Inv.clone(h:Inv f)(ht:t<f.r.length)(I:f.r.length<16)(hn:f.next<65535):Inv (cU f t):=by
 obtain⟨d,B⟩:=h.ic.ao (aP ht);have l:f.n (aB f t)=some d:=B;have A:=h.ic.lt l;have a:(cU f t).c.length=f.c.length:=by simp[cU]
 have n:∀x,cu (cU f t) x=if aB f t=x then cu f (aB f t)+1 else cu f x:=fun x=>fH f _ x _ A;have o:(cU f t).r.length=f.r.length+1:=by simp[cU]
 have p:∀u,(cU f t).r.getD u (0,0)=if u<f.r.length then f.r.getD u (0,0)else if u=f.r.length then(f.next,(f.r.getD t (0,0)).2)else(0,0):=fun u=>by
  show(f.r++[_]).getD u (0,0)=_
  rw[dB];split
  ·rfl
  ·split
   ·rename_i e;subst e;simp
   ·rename_i F G
    obtain⟨m,C⟩:∃m,u-f.r.length=m+1:=⟨u-f.r.length-1,by omega⟩;rw[C];rfl
 have y:∀u,u<f.r.length+1->aB (cU f t) u=aB f (if u<f.r.length then u else t):=fun u c=>by
  unfold aB;rw[p];by_cases e:u<f.r.length
  ·rw[if_pos e,if_pos e]
  ·rw[if_neg e,if_pos (by omega),if_neg e]
 have k:∀u,u<f.r.length+1->rid (cU f t) u=if u<f.r.length then rid f u else f.next:=fun u c=>by
  unfold rid;rw[p];by_cases e:u<f.r.length
  ·rw[if_pos e,if_pos e]
  ·rw[if_neg e,if_pos (by omega),if_neg e]
 have H:=h.nx;refine⟨⟨by rw[a];exact h.ic.n8,by rw[a];exact h.ic.al,by rw[a];exact h.ic.len,fun x g=>?_,⟨fun x=>?_,fun x=>?_⟩,h.ic.two,fun r D=>?_,fun x e g=>?_,h.ic.ht⟩,by omega,by omega,fun u c=>?_,fun i j E v=>?_,fun i s=>?_,?_,h.gn,h.eh,h.dd⟩
 ·rw[a]at g
  have z:=h.ic.D0 x g;unfold df at z |-;rw[a,n];have w:rc (cU f t).r x=rc f.r x+one (aB f t) x:=by
   unfold rc;show((f.r++[(f.next,(f.r.getD t (0,0)).2)]).map fun r=>r.2.toNat).count x=_
   rw[List.map_append,List.count_append];congr 1;show([aB f t]:List Nat).count x=_
   simp[List.count_cons,one]
  rw[w];show _ -((_+deg f.n _ x:Nat):Int)=0
  by_cases e:aB f t=x
  ·subst e;rw[if_pos rfl,cF];omega
  ·rw[if_neg e,fX e];omega
 ·rw[n];split
  ·rename_i e;subst e
   show f.n _=none↔_
   rw[l];have:=h.ic.a1 l;constructor
   ·intro q;cases q
   ·intro q;omega
  ·exact h.ic.a8.dead x
 ·rw[n];have:=h.ic.a8.pos x;have:=h.ic.a8.pos (aB f t);split<;>omega
 ·rw[a]
  have b:r∈f.r++[(f.next,(f.r.getD t (0,0)).2)]:=D;rcases List.mem_append.1 b with b | b
  ·exact h.ic.rb r b
  ·simp only[List.mem_cons,List.not_mem_nil,or_false]at b
   subst b;exact(h.ic.rb (f.r.getD t (0,0)) (aP ht))
 ·rw[a];exact h.ic.kb x e g
 ·rw[o]at c
  rw[y u c];split
  ·exact h.ok u (by assumption)
  ·exact h.ok t ht
 ·rw[o]at v
  rw[k i (by omega),k j v,if_pos (by omega)];split
  ·exact h.ids i j E (by assumption)
  ·exact(h.ek i (by omega)).2
 ·rw[o]at s
  rw[k i s];show _/\_<f.next+1
  split
  ·have:=h.ek i (by assumption);omega
  ·omega
 ·show 1<=f.next+1/\f.next+1<=65535;omega
def fR(f:fZ)(t:Nat):fZ:={f with r:=delE f.r t}
def drop(f:fZ)(t H:Nat):fZ×Int:=unname H (fR f t) (aB f t)
theorem aOJ(h:Ab f g fun _=>False):f=g:=by
 obtain⟨a,b,c,k,d,e,i,j⟩:=h;cases f;cases g;simp only at *;subst a;subst b;subst d;subst e;subst i;subst j;congr;exact funext fun x=>c x (fun q=>q)
theorem zJ(c:Hts nodes ht):∀{h b:Nat} {lo hi:OB},Ok nodes h b lo hi->ht b=h
 | 0,b,lo,hi,d=>by
  obtain⟨es,a,_⟩:=d;rcases c b _ a with⟨_,q⟩ | ⟨q,_⟩
  ·exact q
  ·simp at q
 | h+1,b,lo,hi,d=>by
  obtain⟨es,a,_,f,_,g⟩:=d;have e:0<es.length:=List.length_pos_iff.2 f;have:=zJ c (g 0 e).2;have:=eP (c b _ a) (aQ e);omega
theorem nT(h:Inv f)(ht:t<f.r.length)(h1:1<f.r.length)(hk:Ok f.n H (aB f t) none none):
  Inv (drop f t H).1/\rG H (fR f t) (aB f t)/\(drop f t H).2=(fK f.n f.c.length:Int) -(fK (drop f t H).1.n f.c.length:Int)/\(drop f t H).1.c.length=f.c.length/\(drop f t H).1.r=delE f.r t/\
   (drop f t H).1.next=f.next/\(drop f t H).1.gen=f.gen/\(drop f t H).1.m=f.m/\(drop f t H).1.table=f.table/\(∀x,(drop f t H).1.n x=f.n x\/(drop f t H).1.n x=none):=by
 obtain⟨te,a⟩:=h.ic.ip;have ki:∀r∈delE f.r t,r∈f.r:=fun r B=>oQ B;have K:IP (fR f t) te:=⟨a.n8,a.al,a.len,⟨a.a8.dead,a.a8.pos⟩,a.two,fun r B=>a.rb r (ki r B),a.kb,a.ht⟩;obtain⟨d,hd⟩:=h.ic.ao (aP ht);have Z:aB f t<f.c.length:=h.ic.lt (show f.n (aB f t)=some d from hd);have Y:∀x,x <(fR f t).c.length->df (fR f t) x=(one (aB f t) x:Int):=fun x k=>by
  have W:=h.ic.D0 x k;have z:=fT (f.r.map fun r=>r.2.toNat) t x (by simpa using ht);have g1:(f.r.map fun r=>r.2.toNat).getD t 0=aB f t:=by simp[aB,gD,ht]
  rw[g1]at z;have e:rc (fR f t).r x=(delE (f.r.map fun r=>r.2.toNat) t).count x:=by
   unfold rc fR;congr 1;simp[delE,List.map_take,List.map_drop]
  unfold df at W |-;rw[e];show cu f x -((_+deg f.n f.c.length x:Nat):Int)=_
  have:rc f.r x=(f.r.map fun r=>r.2.toNat).count x:=rfl
  omega
 obtain⟨s1,⟨g,L,M,N,O,w,P,Q,E,y,o,v⟩⟩:=wG (h:=H) (f:=fR f t) (g:=fR f t) (A:=fun _=>False) ⟨rfl,rfl,fun _ _=>rfl,fun _ q=>q.elim,rfl,rfl,rfl,rfl⟩ K Y Z (by rw[cF];exact nR _) (zJ a.ht hk);have hg:(drop f t H).1=g:=aOJ L;have X:(drop f t H).2=0+((fK f.n f.c.length:Int) -(fK g.n f.c.length:Int)):=P;have R:g.c.length=f.c.length:=O;have l:g.r=delE f.r t:=Q;have C:IC g:=M.ic fun x k=>by
  rw[N x k];simp only[List.count_nil,List.count_cons,beq_iff_eq,one];omega
 have m:=bM f.r t ht;have F:∀u,g.r.getD u (0,0)=f.r.getD (if u<t then u else u+1) (0,0):=fun u=>by
  rw[l,iL _ _ _ (by omega)];split<;>rfl
 have U:∀u,aB g u=aB f (if u<t then u else u+1):=fun u=>by unfold aB;rw[F]
 have s:∀u,rid g u=rid f (if u<t then u else u+1):=fun u=>by unfold rid;rw[F]
 have D:∀b,co g b=co f b:=fun b=>by unfold co;rw[E];rfl
 have mi:∀x d,(∃d,g.n x=some d)->f.n x=some d->∀c∈kids d,∃d,g.n c=some d:=fun x d ⟨d',k⟩ S c z=>by
  have:g.n x=some d:=by
   rcases w x with q | q
   ·rw[q];exact S
   ·rw[q]at k;cases k
  exact C.af this z
 have G:∀x,(∃d,g.n x=some d)->g.n x=f.n x:=fun x ⟨d',k⟩=>by
  rcases w x with q | q
  ·exact q
  ·rw[q]at k;cases k
 rw[hg];refine⟨⟨C,by rw[l,m];omega,by rw[l,m];have:=h.bq;omega,fun u I=>?_,fun i j iu hj=>?_,fun i hi=>?_,by rw[y];exact h.nx,by rw[o];exact h.gn,fun b wj=>by rw[D];exact h.eh b wj,fun b=>by rw[D];exact h.dd b⟩,s1,by rw[X];omega,R,l,y,o,E,v,w⟩
 ·rw[l,m]at I
  have T:=C.ao (aP (f:=g) (t:=u) (by rw[l,m];exact I));have p:∃d,g.n (aB g u)=some d:=T;rw[U]at p |-;obtain⟨V,k1,n⟩:=h.ok (if u<t then u else u+1) (by split<;>omega);refine⟨V,Ok.frame mi G _ _ _ _ p k1,?_⟩;rcases n with n | n
  ·exact .inl n
  ·refine .inr ?_
   unfold sz at n |-;rw[G _ p];exact n
 ·rw[l,m]at hj
  rw[s,s];by_cases q:i<t
  ·rw[if_pos q]
   by_cases J:j<t
   ·rw[if_pos J];exact h.ids i j iu (by omega)
   ·rw[if_neg J];exact h.ids i _ (by omega) (by omega)
  ·rw[if_neg q,if_neg (by omega)];exact h.ids _ _ (by omega) (by omega)
 ·rw[l,m]at hi
  rw[s,y];exact h.ek _ (by split<;>omega)
def mT(nodes:Nat->Option Nd)(b:Nat):List E3:=((nodes b).getD (0,[])).2
theorem dH(h:nodes b=some d):mT nodes b=d.2:=by simp[mT,h]
def bN(nodes:Nat->Option Nd):Nat->Nat->List (ByteArray×ByteArray)
 | 0,b=>(mT nodes b).map fun e=>(e.1,e.2.1)
 | h+1,b=>(mT nodes b).flatMap fun e=>bN nodes h (ch e)
def find(nodes:Nat->Option Nd):Nat->Nat->ByteArray->OB
 | 0,b,key=>if fI (mT nodes b) key=true then some ((mT nodes b).getD (cLt (mT nodes b) key) e0).2.1 else none
 | h+1,b,key=>find nodes h (kd (mT nodes b) (bI (mT nodes b) key)) key
def fB(l:List (ByteArray×ByteArray))(key:ByteArray):OB:=(l.find? fun p=>p.1.toList == key.toList).map fun p=>p.2
theorem eN:∀{h b:Nat} {lo hi:OB},Ok nodes h b lo hi->∀p∈bN nodes h b,loR lo p.1/\hiR hi p.1
 | 0,b,lo,hi,k,p,a=>by
  obtain⟨es,g,c,_⟩:=k;simp only[bN,dH g,List.mem_map]at a;obtain⟨e,i,rfl⟩:=a;obtain⟨j,d,rfl⟩:=cO i;exact⟨c.lo j d,c.hi j d⟩
 | h+1,b,lo,hi,k,p,a=>by
  obtain⟨es,g,c,_,_,m⟩:=k;simp only[bN,dH g,List.mem_flatMap]at a;obtain⟨e,i,a⟩:=a;obtain⟨j,d,rfl⟩:=cO i;obtain⟨g1,f⟩:=eN (m j d).2 p a;constructor
  ·cases lo with
   | none=>trivial
   | some l=>exact gQ (c.lo j d) g1
  ·by_cases q:j+1<es.length
   ·rw[cQ _ q]at f;exact sK f (c.hi _ q)
   ·rw[eR _ q]at f;exact f
theorem jD(h:∀p∈l,p.1≠key):fB (l++m) key=fB m key:=by
 unfold fB;rw[List.find?_append];have:l.find? (fun p=>p.1.toList == key.toList)=none:=List.find?_eq_none.2 fun p a q=>h p a (gX (by simpa using q));rw[this];rfl
theorem sY(h:∀p∈l,p.1≠key):fB l key=none:=by
 unfold fB;have:l.find? (fun p=>p.1.toList == key.toList)=none:=List.find?_eq_none.2 fun p a q=>h p a (gX (by simpa using q));rw[this];rfl
theorem oP(h:∀p∈m,p.1≠key):fB (l++m) key=fB l key:=by
 cases e:fB l key with
 | none=>
  have:fB (l++m) key=fB m key:=by
   unfold fB at e |-;rw[List.find?_append];have e':l.find? (fun p=>p.1.toList == key.toList)=none:=by simpa using e
   rw[e'];rfl
  rw[this];exact sY h
 | some v=>
  unfold fB at e |-;rw[List.find?_append];cases e':l.find? (fun p=>p.1.toList == key.toList)with
  | none=>rw[e']at e;cases e
  | some p=>rw[e']at e;rw[Option.some_or];exact e
theorem sD{α:Type}(es:List E3)(g:E3->List α)(a:i<es.length):es.flatMap g=(es.take i).flatMap g++(g (es.getD i e0)++(es.drop (i+1)).flatMap g):=by
 have:es=es.take i++(es.getD i e0 :: es.drop (i+1)):=by
  have b:es.drop i=es.getD i e0 :: es.drop (i+1):=by
   rw[gD,gE a];exact List.drop_eq_getElem_cons a
  rw[<-b,List.take_append_drop]
 conv=>lhs;rw[this]
 rw[List.flatMap_append,List.flatMap_cons]
theorem rZ{key:ByteArray}:∀{h b:Nat} {lo hi:OB},Ok nodes h b lo hi->find nodes h b key=fB (bN nodes h b) key
 | 0,b,lo,hi,s=>by
  obtain⟨es,n,l,_⟩:=s;simp only[find,bN,dH n];by_cases m:fI es key=true
  ·rw[if_pos m]
   obtain⟨t,w⟩:=(dK es key).1 m;generalize cLt es key=i at *;have z:es.map (fun e=>(e.1,e.2.1))=(es.take i).map (fun e=>(e.1,e.2.1))++((es.getD i e0).1,(es.getD i e0).2.1) ::(es.drop (i+1)).map (fun e=>(e.1,e.2.1)):=by
    have y:es.drop i=es.getD i e0 :: es.drop (i+1):=by
     rw[gD,gE t];exact List.drop_eq_getElem_cons t
    rw[<-List.map_cons (f:=fun e:E3=>(e.1,e.2.1)),<-y,<-List.map_append,List.take_append_drop]
   rw[z,jD]
   ·unfold fB
    have:((es.getD i e0).1.toList == key.toList)=true:=by rw[show(es.getD i e0).1=key from w];simp
    rw[List.find?_cons_of_pos (p:=fun p:ByteArray×ByteArray=>p.1.toList == key.toList) (a:=((es.getD i e0).1,(es.getD i e0).2.1)) this];rfl
   ·intro p c q
    obtain⟨e,d,rfl⟩:=List.mem_map.1 c;obtain⟨j,g,rfl⟩:=List.mem_take_iff_getElem.1 d;have:=l.a6 j i (by omega) t;have o:ky es j=es[j].1:=by unfold ky;rw[gD,gE (by omega)];rfl
    rw[w,o,q,eI]at this;cases this
  ·rw[if_neg m]
   refine(sY fun p c q=>?_).symm;obtain⟨e,d,rfl⟩:=List.mem_map.1 c;obtain⟨j,g,rfl⟩:=cO d;exact m (kC l.a6 g q).1
 | h+1,b,lo,hi,s=>by
  obtain⟨es,n,l,o,B,u⟩:=s;simp only[find,bN,dH n];have v:=eJ key o;have ih:=rZ (key:=key) (u _ v).2;rw[ih,sD es _ v];have k:∀j,j<es.length->j≠bI es key->∀p∈bN nodes h (kd es j),p.1≠key:=fun j g x p c q=>by
   obtain⟨g1,r⟩:=eN (u j g).2 p c;rw[q]at g1 r;exact x (aDO l.a6 key g g1 fun A=>by rw[cQ _ A]at r;exact r).symm
  rw[jD,oP]
  ·rfl
  ·intro p c
   obtain⟨e,d,c⟩:=List.mem_flatMap.1 c;obtain⟨j,g,rfl⟩:=List.mem_drop_iff_getElem.1 d;have:es[bI es key+1+j]=es.getD (bI es key+1+j) e0:=by rw[gD,gE (by omega)];rfl
   rw[this]at c;exact k _ (by omega) (by omega) p c
  ·intro p c
   obtain⟨e,d,c⟩:=List.mem_flatMap.1 c;obtain⟨j,g,rfl⟩:=List.mem_take_iff_getElem.1 d;have:es[j]=es.getD j e0:=by rw[gD,gE (by omega)];rfl
   rw[this]at c;exact k _ (by omega) (by omega) p c
theorem jQ{v:ByteArray}:∀{h b:Nat} {lo hi:OB},Ok nodes h b lo hi->find nodes h b key=some v->Mem nodes h b key
 | 0,b,lo,hi,d,a=>by
  obtain⟨es,c,g,_⟩:=d;simp only[find,dH c]at a;by_cases f:fI es key=true
  ·obtain⟨k,l⟩:=(dK es key).1 f
   exact⟨es,c,_,k,l⟩
  ·rw[if_neg f]at a;cases a
 | h+1,b,lo,hi,d,a=>by
  obtain⟨es,c,g,i,m,j⟩:=d;simp only[find,dH c]at a;have e:=eJ key i;exact⟨es,c,_,e,jQ (j _ e).2 a⟩
theorem oD:∀{h b:Nat} {lo hi:OB},Ok nodes h b lo hi->(bN nodes h b).Pairwise fun p q=>kl p.1 q.1=true
 | 0,b,lo,hi,n=>by
  obtain⟨es,k,l,_⟩:=n;simp only[bN,dH k];rw[List.pairwise_map];rw[List.pairwise_iff_getElem];intro i j hi c s;have:=l.a6 i j s c;have g:∀i (h:i<es.length),ky es i=es[i].1:=fun i h=>by unfold ky;rw[gD,gE h];rfl
  rw[g i hi,g j c]at this;exact this
 | h+1,b,lo,hi,n=>by
  obtain⟨es,k,l,v,w,m⟩:=n;simp only[bN,dH k];rw[List.pairwise_flatMap];have g:∀i (h:i<es.length),es[i]=es.getD i e0:=fun i h=>by rw[gD,gE h];rfl
  refine⟨fun e u=>?_,?_⟩
  ·obtain⟨j,c,rfl⟩:=cO u
   exact oD (m j c).2
  ·rw[List.pairwise_iff_getElem]
   intro i j hi c s p o q r;rw[g i hi]at o;rw[g j c]at r;have a:=(eN (m i hi).2 p o).2;have t:=(eN (m j c).2 q r).1;rw[cQ _ (by omega)]at a;have f:kl p.1 (ky es (i+1))=true:=a;have d:kl q.1 (ky es j)=false:=t;by_cases e:i+1=j
   ·rw[e]at f;exact lG f d
   ·exact lG (kO f (l.a6 (i+1) j (by omega) c)) d
theorem Mem.bk{U:Nat->Prop}(e:∀x d,U x->nodes x=some d->∀c∈kids d,U c)(he:∀x,U x->nodes' x=nodes x)(f:U b):Mem nodes h b key↔Mem nodes' h b key:=
 ⟨Mem.frame e he h b f,Mem.frame (fun x d a i c g=>e x d a (by rw[<-he x a];exact i) c g) (fun x a=>(he x a).symm) h b f⟩
theorem kU.iff(g:∀c∈kids d,∀h',Mem nodes h' c key↔Mem nodes' h' c key):kU nodes h d key↔kU nodes' h d key:=by
 obtain⟨k,es⟩:=d;cases h with
 | zero=>exact Iff.rfl
 | succ h=>
  constructor
  ·rintro⟨b,e,a,f⟩;simp only at b a;subst b;exact⟨rfl,e,a,(g _ (aW.2 ⟨e,a,rfl⟩) h).1 f⟩
  ·rintro⟨b,e,a,f⟩;simp only at b a;subst b;exact⟨rfl,e,a,(g _ (aW.2 ⟨e,a,rfl⟩) h).2 f⟩
theorem kU.cut(m:Nat):kU nodes h (k,es) key↔kU nodes h (k,es.take m) key\/kU nodes h (k,es.drop m) key:=by
 have d:∀e,e∈es↔e∈es.take m\/e∈es.drop m:=fun e=>by rw[<-List.mem_append,List.take_append_drop]
 cases h with
 | zero=>
  constructor
  ·rintro⟨a,e,c,b⟩
   rcases(d e).1 c with q | q
   ·exact .inl ⟨a,e,q,b⟩
   ·exact .inr ⟨a,e,q,b⟩
  ·rintro(⟨a,e,c,b⟩ | ⟨a,e,c,b⟩)
   ·exact⟨a,e,(d e).2 (.inl c),b⟩
   ·exact⟨a,e,(d e).2 (.inr c),b⟩
 | succ h=>
  constructor
  ·rintro⟨a,e,c,b⟩
   rcases(d e).1 c with q | q
   ·exact .inl ⟨a,e,q,b⟩
   ·exact .inr ⟨a,e,q,b⟩
  ·rintro(⟨a,e,c,b⟩ | ⟨a,e,c,b⟩)
   ·exact⟨a,e,(d e).2 (.inl c),b⟩
   ·exact⟨a,e,(d e).2 (.inr c),b⟩
theorem Wk.b9(w:Wk f t H)(p:aN f t H P b (h+1) lo hi)(e:f.n b=some (2,es))(key a:ByteArray):
  Mem f.n (h+1) b a↔Mem (setN f b (2,lowK es key)).n (h+1) b a:=by
 obtain⟨_,n,_,o⟩:=p.inner w;rw[e]at n;cases n;have k:(setN f b (2,lowK es key)).n b=some (2,lowK es key):=aD _ _ _;obtain⟨U,y,r,s⟩:=p.cl w.ic w.tl e (nodes':=(setN f b (2,lowK es key)).n) (fun _=>False) (fun _ q=>q.elim) (fun x d v z _=>by show upd _ _ _ x=_;rw[aC _ _ z];exact v);have l:∀j,j<es.length->(Mem f.n h (kd es j) a↔Mem (setN f b (2,lowK es key)).n h (kd es j) a):=fun j c=>by
  obtain⟨d,u⟩:=w.ic.af e (aQ c);exact Mem.bk y r (s _ d u (p.ax w.ic e (aQ c)) id)
 have m:∀j,kd (lowK es key) j=kd es j:=fun j=>by unfold kd ch;rw[(zX es key j o).1]
 constructor
 ·rintro⟨es',g,j,c,i⟩
  rw[e]at g;cases g;exact⟨_,k,j,by rw[cN];exact c,by rw[m];exact(l j c).1 i⟩
 ·rintro⟨es',g,j,c,i⟩
  rw[k]at g;cases g;rw[cN]at c;rw[m]at i;exact⟨es,e,j,c,(l j c).2 i⟩
theorem Wk.cc(w:Wk f t H)(p:aN f t H P b (h+1) lo hi)(j:f.n b=some (2,es))(m:i<es.length)(a:shadow f (.ai b i)=some (g,c))(key:ByteArray)(v:Nat):
  Mem f.n v (kd es i) key↔Mem g.n v c key:=by
 have L:look f b=(2,es):=aE j;have B:bK f (.ai b i)=kd es i:=by simp only[bK,L];rfl
 unfold shadow at a;rw[B]at a;by_cases C:own f (kd es i)
 ·rw[if_pos C]at a;cases a;exact Iff.rfl
 ·rw[if_neg C]at a
  by_cases r:aF f=0
  ·rw[if_pos r]at a;cases a
  ·rw[if_neg r]at a;cases a
   obtain⟨R,V,A,_⟩:=aO r;generalize aF f=q at *;obtain⟨d,k⟩:=w.ic.af j (aQ m);have O:dT f (.ai b i):=⟨w.ic.lt j,es,j,m⟩;obtain⟨I1,s,I3,I4,I5⟩:=w.ic.shadow O B k R V A;have o:f.n q=none:=(w.ic.a8.dead q).2 A;have u:=aQ m;have F:kd es i≠q:=fun e=>by rw[e,o]at k;cases k
   have E:b≠q:=fun e=>by rw[e,o]at j;cases j
   have G:=w.ic.ag k;have nq:(shadowAt f (.ai b i) q).n q=some d:=by
    rw[s];unfold shN cpN;simp only;split
    ·rw[aC _ _ (Ne.symm F),aC _ _ (Ne.symm E),aD]
    ·rw[aC _ _ (Ne.symm E),aD]
   have W:∀x,x≠b->x≠q->¬(x=kd es i/\cu f (kd es i)=1)->(shadowAt f (.ai b i) q).n x=f.n x:=fun x y z N=>by
    rw[s];unfold shN cpN;simp only;split
    ·rename_i X
     rw[aC _ _ (fun e=>N ⟨e,X⟩),aC _ _ y,aC _ _ z]
    ·rw[aC _ _ y,aC _ _ z]
   have K:∀{x:Nat} {d':Nd},f.n x=some d'->x≠q:=fun l e=>by rw[e,o]at l;cases l
   obtain⟨U,T,M,Q⟩:=p.cl w.ic w.tl j (nodes':=(shadowAt f (.ai b i) q).n) (fun x=>x=kd es i/\cu f (kd es i)=1) (fun x ⟨D,Z⟩=>⟨by rw[D];exact Z,by rw[D];exact u⟩) (fun x d l wd I=>by rw[W x wd (K l) I];exact l);rw[bX nq,bX k];refine kU.iff fun c n WZ=>?_;obtain⟨J,S⟩:=w.ic.af k n;exact Mem.bk T M (Q c J S (p.az w.ic j u k n).1 fun Y=>G (Y.1▸n))
theorem Wk.cr(w:Wk f t H)(p:aN f t H P b (h+1) lo hi)(a:f.n b=some (2,es))(s:i<es.length){ces:List E3}(hd:f.n (kd es i)=some (k,ces))(h1:cu f (kd es i)=1)
  {m q:Nat} (L:q<f.c.length) (hc:cu f q=0) (V:2<=m) (W:m+2<=ces.length) (G:2<=q) (key:ByteArray):
  let f':=splitF f b es i (kd es i) k ces m q (ky ces m)
  Mem f.n h (kd es i) key↔Mem f'.n h (kd es i) key\/Mem f'.n h q key:=by
 intro f';obtain⟨T,j⟩:=w.ic.split (key:=ky ces m) (m:=m) a s (rfl:kd es i=_) hd (by omega) (by omega) G L hc;have n:f.n q=none:=(w.ic.a8.dead q).2 hc;have o:=aQ s;have R:kd es i≠b:=fun e=>w.ic.ag a (by rw[<-e];exact o);have u:kd es i≠q:=fun e=>by rw[e,n]at hd;cases hd
 have Q:b≠q:=fun e=>by rw[e,n]at a;cases a
 have v:=w.ic.ag hd;have nq:f'.n q=some (k,ces.drop m):=by rw[j,aC _ _ (Ne.symm Q),aD]
 have K:f'.n (kd es i)=some (k,ces.take m):=by rw[j,aC _ _ R,aC _ _ u,aD]
 have M:∀x,x≠b->x≠q->x≠kd es i->f'.n x=f.n x:=fun x h1 C D=>by rw[j,aC _ _ h1,aC _ _ C,aC _ _ D]
 have A:∀{x:Nat} {d':Nd},f.n x=some d'->x≠q:=fun g e=>by rw[e,n]at g;cases g
 obtain⟨U,J,B,E⟩:=p.cl w.ic w.tl a (nodes':=f'.n) (fun x=>x=kd es i) (fun x O=>by rw[O];exact⟨h1,o⟩) (fun x d g S y=>by rw[M x S (A g) y];exact g);have F:∀c∈kids (k,ces),∀r,Mem f.n r c key↔Mem f'.n r c key:=fun c l r=>by
  obtain⟨z,I⟩:=w.ic.af hd l;exact Mem.bk J B (E c z I (p.az w.ic a o hd l).1 fun N=>v (N▸l))
 rw[bX nq,bX K,bX hd,kU.iff F,kU.cut m]
theorem Wk.bR(w:Wk f t H)(p:aN f t H P b (h+1) lo hi)(hl:loR lo key)(B:sz f.n b<5)(d:Fo.stepDown f b key=some (g,c)):
  Mem f.n (h+1) b key↔Mem g.n h c key:=by
 obtain⟨es,r,ue,Z⟩:=p.inner w;have hz:es.length<5:=by unfold sz at B;rw[r]at B;exact B
 obtain⟨w1,I,r1⟩:=w.bu p r key hl;have N:=w.b9 p r key key;unfold Fo.stepDown at d;rw[aE r]at d;simp only at d;generalize hK:lowK es key=a at *;have v:(setN f b (2,a)).n b=some (2,a):=aD _ _ _;have M:a.length=es.length:=by rw[<-hK];exact cN es key
 have mr:a≠[]:=fun e=>Z (List.length_eq_zero_iff.1 (by rw[<-M,e];rfl));have u:bI a key<a.length:=eJ key mr;have O:Mem (setN f b (2,a)).n (h+1) b key↔Mem (setN f b (2,a)).n h (kd a (bI a key)) key:=⟨fun D=>Mem.at v (I.ok w1.ok).1 D,fun D=>⟨a,v,_,u,D⟩⟩;generalize bI a key=i at *;cases s:shadow (setN f b (2,a)) (.ai b i)with
 | none=>rw[s]at d;cases d
 | some gc=>
  obtain⟨g1,c1⟩:=gc;rw[s]at d;simp only at d;obtain⟨J,V,p3,⟨A,F,U,m3,o⟩,m5,G,m7,m8,m9⟩:=w1.aj I v u s;have Q:=w1.cc I v u s key h;obtain⟨⟨k,l⟩,C⟩:=J.ic.live (x:=c1) (by rw[G];omega);rw[aE C]at d;simp only at d;by_cases j:l.length=5
  ·rw[if_pos j]at d
   by_cases n:aF g1=0
   ·rw[if_pos n]at d;cases d
   ·rw[if_neg n,aE F]at d
    simp only at d
    obtain⟨R,S,T,l4⟩:=aO n;have Y:i<A.length:=by rw[U];exact u
    obtain⟨K,p4,W,X,n1,n2,n3,n4⟩:=J.split V F (by rw[U,M];exact hz) Y (by rw[o];exact C) (by rw[o];exact G) (m:=3) (by omega) (by omega) R S T;have E:=J.cr V F Y (by rw[o];exact C) (by rw[o];exact G) (m:=3) S T (by omega) (by omega) R key;rw[o]at K p4 W X n1 n2 n3 n4 E;simp only[sJ,Prod.mk.injEq]at d;obtain⟨rfl,rfl⟩:=d;simp only at E;rw[N,O,Q,E];by_cases y:kl key (ky l 3)=true
    ·rw[if_pos y]
     refine⟨fun q=>q.resolve_right fun q=>?_,.inl⟩;have z:=(Mem.bounds (X.ok K.ok).1 q).1;have L:kl key (ky l 3)=false:=z;rw[y]at L;cases L
    ·rw[if_neg y]
     refine⟨fun q=>q.resolve_left fun q=>?_,.inr⟩;have z:=(Mem.bounds (W.ok K.ok).1 q).2;exact y z
  ·rw[if_neg j]at d
   simp only[sJ,Prod.mk.injEq]at d;obtain⟨rfl,rfl⟩:=d;rw[N,O,Q]
theorem lM:∀{h:Nat} {f:fZ} (w:Wk f t H) {P:List Nat} {b:Nat} {lo hi:OB} (p:aN f t H P b h lo hi) (hl:loR lo key) (hh:hiR hi key) (h5:sz f.n b<5) {g:fZ} {th:Bool} (hs:putAt h f b key val=some (g,th)),
  th=true↔Mem f.n h b key
 | 0,f,w,P,b,lo,hi,p,hl,hh,h5,g,th,hs=>by
  obtain⟨es,c,l,z⟩:=p.leaf w;unfold putAt at hs;rw[aE c]at hs;simp only[sJ,Prod.mk.injEq]at hs;obtain⟨_,rfl⟩:=hs;constructor
  ·intro q
   obtain⟨m,n⟩:=(dK es key).1 q;exact⟨es,c,_,m,n⟩
  ·rintro⟨es',d,j,k,e⟩
   rw[c]at d;cases d;exact(kC l.a6 k e).1
 | h+1,f,w,P,b,lo,hi,p,hl,hh,h5,g,th,hs=>by
  unfold putAt at hs;cases a:stepDown f b key with
  | none=>rw[a]at hs;cases hs
  | some i=>
   obtain⟨g1,c1⟩:=i;rw[a]at hs;obtain⟨x,u,y,w1,v,o,r,s,A,B⟩:=w.stepDown p hl hh h5 a;rw[w.bR p hl h5 a];exact lM w1 v o r s hs
theorem Wk.ba(w:Wk f t H){r:Nat}(a:shadow f (.root t)=some (g,r))(key:ByteArray)(h:Nat):Mem f.n h (aB f t) key↔Mem g.n h r key:=by
 obtain⟨w1,Q,J,u,K,M,N,O⟩:=w.ak a;unfold shadow at a;have z:bK f (.root t)=aB f t:=rfl;rw[z]at a;by_cases o:own f (aB f t)
 ·rw[if_pos o]at a;cases a;exact Iff.rfl
 ·rw[if_neg o]at a
  by_cases l:aF f=0
  ·rw[if_pos l]at a;cases a
  ·rw[if_neg l]at a
   simp only[sJ,Prod.mk.injEq]at a;obtain⟨C,G⟩:=a;obtain⟨A,B,p,_⟩:=aO l;obtain⟨d,n⟩:=w.ic.ao (aP w.tl);have j:f.n (aB f t)=some d:=n;obtain⟨I,s,_⟩:=w.ic.shadow (L:=.root t) w.tl rfl n A B p;have v:f.n (aF f)=none:=(w.ic.a8.dead _).2 p;have q:g.n=if cu f (aB f t)=1 then upd (upd f.n (aF f) (some d)) (aB f t) none else upd f.n (aF f) (some d):=by rw[<-C];exact s
   let U:Nat->Prop:=fun x=>(∃d,f.n x=some d)/\(cu f (aB f t)=1->x≠aB f t)
   have D:∀x d,U x->f.n x=some d->∀c∈kids d,U c:=fun x d' _ i c b=>
    ⟨w.ic.af i b,fun k e=>(w.ic.a2 (aP w.tl) k).2 x d' i (by have:c=(f.r.getD t (0,0)).2.toNat:=e;rw[<-this];exact b)⟩
   have y:∀x,U x->g.n x=f.n x:=fun x ⟨⟨d',i⟩,k⟩=>by
    have m:x≠aF f:=fun e=>by rw[e,v]at i;cases i
    rw[q];split
    ·rename_i F;rw[aC _ _ (k F),aC _ _ m]
    ·rw[aC _ _ m]
   have E:g.n r=some d:=by rw[u];exact j
   rw[bX E,bX j];exact kU.iff fun c b P=>Mem.bk D y ⟨w.ic.af j b,fun _ e=>w.ic.ag j (e▸b)⟩
theorem Wk.cx(w:Wk f t H)(h1:cu f (aB f t)=1)(hd:f.n (aB f t)=some (k,es)){m q top:Nat}(O:2<=m)(P:m+2<=es.length)
  (J:2<=q) (L:q<f.c.length) (u:cu f q=0) (z:2<=top) (B:top<f.c.length) (v:cu f top=0) (y:top≠q) (key:ByteArray):
  let f':=growF f t (aB f t) k es m q top (ky es 0) (ky es m)
  Mem f.n H (aB f t) key↔Mem f'.n (H+1) top key:=by
 intro f';obtain⟨N,i⟩:=w.ic.grow (t:=t) (r:=aB f t) (m:=m) (ky es 0) (ky es m) w.tl rfl hd (by omega) (by omega) J L u z B v y;have n:f.n q=none:=(w.ic.a8.dead q).2 u;have l:f.n top=none:=(w.ic.a8.dead top).2 v;have C:aB f t≠q:=fun e=>by rw[e,n]at hd;cases hd
 have E:aB f t≠top:=fun e=>by rw[e,l]at hd;cases hd
 have I:=w.ic.a2 (aP w.tl) h1;have h:f'.n top=some (2,[(ky es 0,.empty,(aB f t:Int)),(ky es m,.empty,(q:Int))]):=by rw[i,aD]
 have nq:f'.n q=some (k,es.drop m):=by rw[i,aC _ _ (Ne.symm y),aD]
 have M:f'.n (aB f t)=some (k,es.take m):=by rw[i,aC _ _ E,aC _ _ C];exact aD _ _ _
 let U:Nat->Prop:=fun x=>(∃d,f.n x=some d)/\x≠aB f t
 have K:∀x d,U x->f.n x=some d->∀c∈kids d,U c:=fun x d' _ b c g=>
  ⟨w.ic.af b g,fun e=>I.2 x d' b (by have:c=(f.r.getD t (0,0)).2.toNat:=e;rw[<-this];exact g)⟩
 have F:∀x,U x->f'.n x=f.n x:=fun x ⟨⟨d',b⟩,h1⟩=>by
  have A:x≠q:=fun e=>by rw[e,n]at b;cases b
  have D:x≠top:=fun e=>by rw[e,l]at b;cases b
  rw[i,aC _ _ D,aC _ _ A];exact aC _ _ h1
 have G:∀c∈kids (k,es),∀j,Mem f.n j c key↔Mem f'.n j c key:=fun c g j=>
  Mem.bk K F ⟨w.ic.af hd g,fun e=>w.ic.ag hd (e▸g)⟩
 have o:ch (ky es 0,.empty,(aB f t:Int))=aB f t:=by simp[ch]
 have p:ch (ky es m,.empty,(q:Int))=q:=by simp[ch]
 rw[bX hd,kU.iff G,kU.cut m,<-bX M,<-bX nq,bX h];constructor
 ·rintro(a | a)
  ·exact⟨rfl,_,List.mem_cons_self,by rw[o];exact a⟩
  ·exact⟨rfl,_,List.mem_cons_of_mem _ List.mem_cons_self,by rw[p];exact a⟩
 ·rintro⟨_,e,s,a⟩
  simp only[List.mem_cons,List.not_mem_nil,or_false]at s;rcases s with rfl | rfl
  ·rw[o]at a;exact .inl a
  ·rw[p]at a;exact .inr a
theorem aGF(w:Wk f t H){th:Bool}(a:put f t H key val=some (g,th)):th=true↔Mem f.n H (aB f t) key:=by
 unfold put at a;cases j:shadow f (.root t)with
 | none=>rw[j]at a;cases a
 | some gr=>
  obtain⟨g1,r1⟩:=gr;rw[j]at a;simp only at a;obtain⟨w1,z,A,I,l,J,K,L⟩:=w.ak j;rw[w.ba j];obtain⟨⟨k,es⟩,d⟩:=w1.ic.live (x:=r1) (by rw[l];omega);have M:es.length<=5:=by
   obtain⟨d',d1,_,d2,_⟩:=((z.ok w1.ok).1).bj;rw[d]at d1;cases d1;exact d2
  rw[aE d]at a;simp only at a;by_cases c:es.length=5
  ·rw[if_pos c]at a
   cases b:bL g1 t r1 with
   | none=>rw[b]at a;cases a
   | some C=>
    obtain⟨P,F⟩:=C;rw[b]at a;simp only at a;unfold bL at b;rw[aE d]at b;simp only at b;by_cases q:aF g1=0
    ·rw[if_pos q]at b;cases b
    ·rw[if_neg q]at b
     generalize hT:aF (takeAt (setN g1 r1 (k,es.take 3)) (aF g1) (k,es.drop 3))=r at *;by_cases n:r=0
     ·rw[if_pos n]at b;cases b
     ·rw[if_neg n]at b
      simp only[sJ,Prod.mk.injEq]at b;obtain⟨rfl,rfl⟩:=b;obtain⟨u,o,v,Q⟩:=aO q;obtain⟨p,y,h,R⟩:=aO (hT▸n);rw[hT]at p y h;have E:∀x,cu (takeAt (setN g1 r1 (k,es.take 3)) (aF g1) (k,es.drop 3)) x=if aF g1=x then 1 else cu g1 x:=fun x=>dV (f:=setN g1 r1 (k,es.take 3)) (k,es.drop 3) o x;rw[E]at h;have s:r≠aF g1:=fun e=>by rw[if_pos e.symm]at h;omega
      rw[if_neg (Ne.symm s)]at h;have i:r<g1.c.length:=by simpa [takeAt,setN] using y
      subst A;obtain⟨G,D,N,O,B⟩:=w1.grow l d (m:=3) (by omega) (by omega) u o v p i h s;refine Iff.trans ?_ (w1.cx l d (m:=3) (by omega) (by omega) u o v p i h s key).symm;exact lM G D trivial trivial (by unfold sz;rw[B];simp) a
  ·rw[if_neg c]at a
   exact lM w1 z trivial trivial (by unfold sz;rw[d];simp only;omega) a
def iG(c:List Int)(k:Nat):List Int:=c.set k (c.getD k 0+1)
def mN(K:Nat->List Nat):Nat->Nat->List Int->List Int
 | 0,_,c=>c
 | h+1,b,c=>(K b).foldl (fun c k=>if(iG c k).getD k 0=1 then mN K h k (iG c k)else iG c k) c
def vis(K:Nat->List Nat)(h:Nat)(c:List Int)(k:Nat):List Int:=if(iG c k).getD k 0=1 then mN K h k (iG c k)else iG c k
theorem uG(K:Nat->List Nat)(h b:Nat)(c:List Int):mN K (h+1) b c=(K b).foldl (vis K h) c:=rfl
theorem jU(c:List Int)(k:Nat):(iG c k).length=c.length:=by simp[iG]
theorem oC(c:List Int)(k x:Nat)(a:k<c.length):(iG c k).getD x 0=c.getD x 0+(one k x:Int):=by
 unfold iG;rw[eQ];by_cases e:k=x
 ·subst e;rw[if_pos ⟨rfl,a⟩,cF];rfl
 ·rw[if_neg (fun q=>e q.1),fX e];simp
def qP(nodes:Nat->Option Nd)(n:Nat)(e:Nat->Bool)(x:Nat):Nat:=cY n fun y=>if e y then(bZ (nodes y)).count x else 0
theorem rO{n k:Nat}{e:Nat->Bool}(c:k<n)(hd:nodes k=some d)(he:e k=false)(x:Nat):qP nodes n (fun y=>e y || y == k) x=qP nodes n e x+(kids d).count x:=by
 have:=mF (n:=n) (g:=fun y=>if e y then(bZ (nodes y)).count x else 0) (g':=fun y=>if(e y || y == k)=true then(bZ (nodes y)).count x else 0) c (fun y f=>by
  have:(y == k)=false:=by simp[f]
  simp[this])
 have a:(if e k=true then(bZ (nodes k)).count x else 0)=0:=by rw[he];rfl
 have b:(if(e k || k == k)=true then(bZ (nodes k)).count x else 0)=(kids d).count x:=by rw[hd];simp[bZ]
 have t:qP nodes n (fun y=>e y || y == k) x+(if e k=true then(bZ (nodes k)).count x else 0)=qP nodes n e x+(if(e k || k == k)=true then(bZ (nodes k)).count x else 0):=this;rw[a,b]at t;exact t
structure J(f:fZ)(s:Nat->Nat)(c:List Int)(e:Nat->Bool)(P:List Nat):Prop where
 len:c.length=f.c.length
 eq:∀x,x<f.c.length->c.getD x 0+(P.count x:Int)=((s x+qP f.n f.c.length e x:Nat):Int)
 pos:∀x,0<=c.getD x 0
 vis:∀x,x<f.c.length->(e x=true↔1<=c.getD x 0)
 live:∀x,e x=true->∃d,f.n x=some d
theorem aNZ(h:IC f)(B:Hts f.n ht)(E:∀b d,f.n b=some d->K b=kids d){s:Nat->Nat}:
  ∀(m:Nat) (l P:List Nat) (c:List Int) (e:Nat->Bool),(∀k∈l,(∃d,f.n k=some d)/\ht k=m)->J f s c e (l++P)->∃e',J f s (l.foldl (vis K m) c) e' P:=by
 intro m;induction m with
 | zero=>
  intro l;induction l with
  | nil=>intro P c e o a;exact⟨e,a⟩
  | cons k l ih=>
   intro P c e o a;obtain⟨⟨d,n⟩,D⟩:=o k List.mem_cons_self;have p:=h.lt n;have A:k<c.length:=by rw[a.len];exact p
   have H:kids d=[]:=by
    refine List.eq_nil_iff_forall_not_mem.2 fun y j=>?_;rcases B k d n with⟨q,_⟩ | ⟨_,q⟩
    ·simp[kids,q]at j
    ·have:=q y j;omega
   have i:=fun x=>oC c k x A;have r:∀x,((k :: l++P).count x:Nat)=(l++P).count x+one k x:=fun x=>by simp only[List.cons_append,List.count_cons,beq_iff_eq,one]
   rw[List.foldl_cons];refine ih P _ (if c.getD k 0=0 then(fun y=>e y || y == k)else e) (fun y j=>o y (List.mem_cons_of_mem _ j)) ?_;have u:vis K 0 c k=iG c k:=by unfold vis mN;split<;>rfl
   rw[u];by_cases v:c.getD k 0=0
   ·rw[if_pos v]
    have w:e k=false:=by
     cases q:e k with
     | false=>rfl
     | true=>have:=(a.vis k p).1 q;omega
    refine⟨by rw[jU];exact a.len,fun x g=>?_,fun x=>?_,fun x g=>?_,fun x g=>?_⟩
    ·have:=a.eq x g
     rw[r]at this;rw[i,rO p n w,H,List.count_nil];omega
    ·rw[i];have:=a.pos x;omega
    ·rw[i]
     by_cases q:x=k
     ·subst q;rw[cF];have F:=a.pos x;exact⟨fun _=>by omega,fun _=>by simp⟩
     ·have:(x == k)=false:=by simp[q]
      rw[this,Bool.or_false,fX (Ne.symm q)];have:=a.vis x g;simpa using this
    ·simp only[Bool.or_eq_true,beq_iff_eq]at g
     rcases g with g | g
     ·exact a.live x g
     ·subst g;exact⟨d,n⟩
   ·rw[if_neg v]
    refine⟨by rw[jU];exact a.len,fun x g=>?_,fun x=>?_,fun x g=>?_,a.live⟩
    ·have:=a.eq x g
     rw[r]at this;rw[i];omega
    ·rw[i];have:=a.pos x;omega
    ·rw[i]
     have t:=a.vis x g;by_cases q:k=x
     ·subst q;rw[cF]
      have:=a.pos k
      constructor
      ·intro _;omega
      ·intro _;exact t.2 (by omega)
     ·rw[fX q];simpa using t
 | succ m z=>
  intro l;induction l with
  | nil=>intro P c e o a;exact⟨e,a⟩
  | cons k l ih=>
   intro P c e o a;obtain⟨⟨d,n⟩,D⟩:=o k List.mem_cons_self;have p:=h.lt n;have A:k<c.length:=by rw[a.len];exact p
   have i:=fun x=>oC c k x A;have r:∀x,((k :: l++P).count x:Nat)=(l++P).count x+one k x:=fun x=>by simp only[List.cons_append,List.count_cons,beq_iff_eq,one]
   rw[List.foldl_cons];by_cases v:c.getD k 0=0
   ·have w:e k=false:=by
     cases q:e k with
     | false=>rfl
     | true=>have:=(a.vis k p).1 q;omega
    have u:vis K (m+1) c k=(kids d).foldl (vis K m) (iG c k):=by
     unfold vis;rw[if_pos (by rw[i,cF,v];rfl),uG,E k d n];rfl
    obtain⟨C,G⟩:=z (kids d) (l++P) (iG c k) (fun y=>e y || y == k) (fun y j=>⟨h.af n j,by
     rcases B k d n with⟨q,_⟩ | ⟨_,q⟩
     ·simp[kids,q]at j
     ·have:=q y j;omega⟩) (by
     refine⟨by rw[jU];exact a.len,fun x g=>?_,fun x=>?_,fun x g=>?_,fun x g=>?_⟩
     ·have:=a.eq x g
      rw[r]at this;rw[i,rO p n w,List.count_append];omega
     ·rw[i];have:=a.pos x;omega
     ·rw[i]
      by_cases q:x=k
      ·subst q;rw[cF];have F:=a.pos x;exact⟨fun _=>by omega,fun _=>by simp⟩
      ·have:(x == k)=false:=by simp[q]
       rw[this,Bool.or_false,fX (Ne.symm q)];have:=a.vis x g;simpa using this
     ·simp only[Bool.or_eq_true,beq_iff_eq]at g
      rcases g with g | g
      ·exact a.live x g
      ·subst g;exact⟨d,n⟩)
    rw[u];exact ih P _ C (fun y j=>o y (List.mem_cons_of_mem _ j)) G
   ·have u:vis K (m+1) c k=iG c k:=by
     unfold vis;rw[if_neg (by rw[i,cF];omega)]
    rw[u];refine ih P _ e (fun y j=>o y (List.mem_cons_of_mem _ j)) ⟨by rw[jU];exact a.len,fun x g=>?_,fun x=>?_,fun x g=>?_,a.live⟩
    ·have:=a.eq x g
     rw[r]at this;rw[i];omega
    ·rw[i];have:=a.pos x;omega
    ·rw[i]
     have t:=a.vis x g;by_cases q:k=x
     ·subst q;rw[cF]
      have:=a.pos k
      constructor
      ·intro _;omega
      ·intro _;exact t.2 (by omega)
     ·rw[fX q];simpa using t
def aOH(K:Nat->List Nat)(ht:Nat->Nat)(rs:List Nat)(n:Nat):List Int:=rs.foldl (fun c r=>vis K (ht r) c r) (List.replicate n 0)
theorem vF(a:Nat->Option Nd)(n x:Nat):qP a n (fun _=>false) x=0:=by
 unfold qP;induction n with
 | zero=>rfl
 | succ n ih=>simp only[cY];rw[ih];simp
theorem aIQ(ht:Nat->Nat)(n:Nat):∃M,∀x,x<n->ht x<=M:=by
 induction n with
 | zero=>exact⟨0,fun x b=>by omega⟩
 | succ n ih=>
  obtain⟨M,a⟩:=ih;refine⟨max M (ht n),fun x b=>?_⟩;by_cases e:x=n
  ·subst e;omega
  ·have:=a x (by omega);omega
theorem aLH(h:IC f)(A:Hts f.n ht)(I:∀b d,f.n b=some d->K b=kids d):aOH K ht (f.r.map fun r=>r.2.toNat) f.c.length=f.c:=by
 have G:∀(rs:List Nat) (c:List Int) (e:Nat->Bool),(∀r∈rs,∃d,f.n r=some d)->J f (rc f.r) c e rs->∃e',J f (rc f.r) (rs.foldl (fun c r=>vis K (ht r) c r) c) e' []:=by
  intro rs;induction rs with
  | nil=>intro c e _ j;exact⟨e,j⟩
  | cons r rs ih=>
   intro c e m j;obtain⟨F,O⟩:=aNZ h A I (ht r) [r] rs c e (fun k u=>by
    simp only[List.mem_cons,List.not_mem_nil,or_false]at u;subst u;exact⟨m k List.mem_cons_self,rfl⟩) j
   exact ih _ F (fun y n=>m y (List.mem_cons_of_mem _ n)) O
 obtain⟨e,j⟩:=G (f.r.map fun r=>r.2.toNat) (List.replicate f.c.length 0) (fun _=>false) (fun r m=>by
  obtain⟨q,N,rfl⟩:=List.mem_map.1 m;exact h.ao N) ⟨by simp,fun x a=>by
   rw[vF];have:(List.replicate f.c.length (0:Int)).getD x 0=0:=by simp[gD,a]
   rw[this];unfold rc;omega,fun x=>by
   by_cases a:x<f.c.length
   ·simp[gD,a]
   ·simp[gD,a],fun x a=>by simp[gD,a],fun x a=>by simp at a⟩
 show(f.r.map fun r=>r.2.toNat).foldl _ _=_
 generalize (f.r.map fun r=>r.2.toNat).foldl (fun c r=>vis K (ht r) c r) (List.replicate f.c.length 0)=c at j |-;obtain⟨M,L⟩:=aIQ ht f.c.length;have s:∀k x d,f.n x=some d->M-ht x=k->e x=true:=by
  intro k;induction k using Nat.strongRecOn with
  | ind k ih=>
   intro x d w u;have a:=h.lt w;refine(j.vis x a).2 ?_;have o:=j.eq x a;simp only[List.count_nil]at o;have H:=h.names a;have p:=h.a1 w;by_cases m:0<rc f.r x
   ·omega
   ·have C:0<deg f.n f.c.length x:=by omega
    obtain⟨y,n,l⟩:=iP C;cases i:f.n y with
    | none=>rw[i]at l;simp[bZ]at l
    | some t=>
     rw[i]at l;have B:x∈kids t:=List.count_pos_iff.1 l;have P:ht x+1=ht y:=by
      rcases A y t i with⟨q,_⟩ | ⟨_,q⟩
      ·simp[kids,q]at B
      ·exact q x B
     have Q:=L y n;have E:=ih (M-ht y) (by omega) y t i rfl;have v:=oY (g:=fun z=>if e z then(bZ (f.n z)).count x else 0) n;simp only[E,if_true]at v;rw[i]at v;have:0<qP f.n f.c.length e x:=lL l v;omega
 have D:∀x,qP f.n f.c.length e x=deg f.n f.c.length x:=fun x=>by
  unfold qP deg;refine qI fun y n=>?_;cases i:f.n y with
  | none=>simp[bZ]
  | some d=>rw[s _ y d i rfl];rfl
 refine List.ext_getElem? fun x=>?_;by_cases a:x<f.c.length
 ·have o:=j.eq x a
  simp only[List.count_nil]at o;rw[D]at o;have H:=h.names a;have p:c.getD x 0=cu f x:=by omega
  unfold cu at p;rw[gD,gD,gE (by rw[j.len];exact a),gE a]at p;rw[gE (by rw[j.len];exact a),gE a];simpa using p
 ·rw[List.getElem?_eq_none (by rw[j.len];omega),List.getElem?_eq_none (by omega)]
abbrev aR:=Nat×Int×Option Nd
abbrev jr0:aR:=(0,0,none)
def Tch(b:Nat)(J:List aR):Prop:=∃r∈J,r.1=b
def fst(J:List aR)(b:Nat):Option aR:=J.find? fun r=>r.1 == b
theorem aIN{J:List aR}:fst J b=none↔¬Tch b J:=by
 unfold fst Tch;rw[List.find?_eq_none];constructor
 ·rintro h ⟨r,a,e⟩;exact h r a (by simp[e])
 ·intro h r a e;exact h ⟨r,a,by simpa using e⟩
theorem aDS(J K:List aR)(b:Nat):fst (J++K) b=(fst J b).or (fst K b):=by
 unfold fst;rw[List.find?_append]
structure JI(f0 f:fZ)(J:List aR):Prop where
 next:f.next=f0.next
 gen:f.gen=f0.gen
 m:f.m=f0.m
 table:f.table=f0.table
 len:f.c.length=f0.c.length
 lt:∀r∈J,r.1<f0.c.length
 old:∀b r,fst J b=some r->r.2=(cu f0 b,f0.n b)
 new:∀b,fst J b=none->cu f b=cu f0 b/\f.n b=f0.n b
theorem JI.start(f:fZ):JI f f []:=⟨rfl,rfl,rfl,rfl,rfl,fun _ h=>(by simp at h),fun b r h=>(by simp[fst]at h),fun _ _=>⟨rfl,rfl⟩⟩
theorem JI.save{J:List aR}(h:JI f0 f J)(j:b<f.c.length):JI f0 f (J++[(b,cu f b,f.n b)]):=by
 refine⟨h.next,h.gen,h.m,h.table,h.len,fun r a=>?_,fun x r a=>?_,fun x c=>?_⟩
 ·rcases List.mem_append.1 a with a | a
  ·exact h.lt r a
  ·simp only[List.mem_singleton]at a;subst a;rw[<-h.len];exact j
 ·rw[aDS]at a
  cases e:fst J x with
  | some k=>rw[e]at a;simp only[Option.some_or,sJ]at a;subst a;exact h.old x _ e
  | none=>
   rw[e]at a;simp only[Option.none_or,fst,List.find?_cons,List.find?_nil]at a;split at a
   ·rename_i d
    simp only[beq_iff_eq]at d;simp only[sJ]at a;subst a;subst d;obtain⟨g,i⟩:=h.new b e;rw[g,i]
   ·cases a
 ·rw[aDS]at c
  cases e:fst J x with
  | some k=>rw[e]at c;simp at c
  | none=>exact h.new x e
theorem JI.dk{J:List aR}(h:JI f0 f J)(hn:f'.next=f.next)(i:f'.gen=f.gen)(hc:f'.m=f.m)(ht:f'.table=f.table)(j:f'.c.length=f.c.length)
  (hx:∀x,¬Tch x J->cu f' x=cu f x/\f'.n x=f.n x):JI f0 f' J:=
 ⟨hn.trans h.next,i.trans h.gen,hc.trans h.m,ht.trans h.table,j.trans h.len,h.lt,h.old,fun b a=>by
  obtain⟨c,d⟩:=h.new b a;obtain⟨e,g⟩:=hx b (aIN.1 a);exact⟨e.trans c,g.trans d⟩⟩
structure JS(k:Nat)(f:fZ)(J:List aR)(f':fZ)(J':List aR):Prop where
 ji:∀f0,JI f0 f J->JI f0 f' J'
 b5:∀b,Tch b J->Tch b J'
 len:J'.length<=J.length+k
theorem JS.refl(f:fZ)(J:List aR):JS 0 f J f J:=⟨fun _ h=>h,fun _ h=>h,nR _⟩
theorem JS.trans{k l:Nat}{i:fZ}{J K L:List aR}(a:JS k f J g K)(b:JS l g K i L):JS (k+l) f J i L:=
 ⟨fun c h=>b.ji c (a.ji c h),fun x h=>b.b5 x (a.b5 x h),by have:=a.len;have:=b.len;omega⟩
theorem JS.up{k l:Nat}{J K:List aR}(a:JS k f J g K)(h:k<=l):JS l f J g K:=⟨a.ji,a.b5,by have:=a.len;omega⟩
theorem JS.save{J:List aR}(a:b<f.c.length):JS 1 f J f (J++[(b,cu f b,f.n b)]):=
 ⟨fun d h=>h.save a,fun x ⟨r,c,e⟩=>⟨r,List.mem_append_left _ c,e⟩,by simp⟩
theorem Tch.saved{J:List aR}{c:Int}{d:Option Nd}:Tch b (J++[(b,c,d)]):=⟨_,List.mem_append_right _ (List.mem_singleton.2 rfl),rfl⟩
theorem JS.dk{J:List aR}(hn:f'.next=f.next)(a:f'.gen=f.gen)(hc:f'.m=f.m)(ht:f'.table=f.table)(b:f'.c.length=f.c.length)
  (hx:∀x,¬Tch x J->cu f' x=cu f x/\f'.n x=f.n x):JS 0 f J f' J:=⟨fun c h=>h.dk hn a hc ht b hx,fun _ h=>h,nR _⟩
theorem JS.setN{J:List aR}(d:Nd)(h:Tch b J):JS 0 f J (setN f b d) J:=
 JS.dk rfl rfl rfl rfl rfl fun x a=>⟨rfl,aC _ _ fun e=>a (e▸h)⟩
theorem jP(f:fZ){x:Nat}(v:Int)(h:x≠b):(f.c.set b v).getD x 0=cu f x:=by
 unfold cu;rw[gD,gD,List.getElem?_set,if_neg (Ne.symm h)]
theorem JS.takeAt{J:List aR}(d:Nd)(h:Tch b J):JS 0 f J (takeAt f b d) J:=
 JS.dk rfl rfl rfl rfl (by simp[Fo.takeAt]) fun x a=>⟨jP f _ fun e=>a (e▸h),aC _ _ fun e=>a (e▸h)⟩
theorem JS.freeB{J:List aR}(h:Tch b J):JS 0 f J (freeB f b) J:=
 JS.dk rfl rfl rfl rfl (by simp[Fo.freeB]) fun x a=>⟨jP f _ fun e=>a (e▸h),aC _ _ fun e=>a (e▸h)⟩
def setC(f:fZ)(b:Nat)(v:Int):fZ:={f with c:=f.c.set b v}
theorem JS.setC{J:List aR}(v:Int)(h:Tch b J):JS 0 f J (setC f b v) J:=
 JS.dk rfl rfl rfl rfl (by simp[Fo.setC]) fun x a=>⟨jP f _ fun e=>a (e▸h),rfl⟩
theorem JS.r{J:List aR}(r:List (Int×Int)):JS 0 f J {f with r:=r} J:=JS.dk rfl rfl rfl rfl rfl fun x a=>⟨rfl,rfl⟩
theorem JS.setL{J:List aR}(L:Loc)(q:Nat)(h:∀b i,L=.ai b i->Tch b J):JS 0 f J (setL f L q) J:=by
 cases L with
 | inl t=>exact JS.r _
 | inr a=>obtain⟨b,i⟩:=a;exact JS.setN _ (h b i rfl)
def aMP(f:fZ)(r:aR):fZ:={f with c:=f.c.set r.1 r.2.1,n:=upd f.n r.1 r.2.2}
def eF(f:fZ)(J:List aR):fZ:=J.foldr (fun r g=>aMP g r) f
theorem pH(f:fZ)(J:List aR):(eF f J).next=f.next/\(eF f J).gen=f.gen/\(eF f J).m=f.m/\(eF f J).table=f.table/\(eF f J).r=f.r/\(eF f J).c.length=f.c.length:=by
 induction J with
 | nil=>exact⟨rfl,rfl,rfl,rfl,rfl,rfl⟩
 | cons r J ih=>obtain⟨a,b,c,d,e,g⟩:=ih;exact⟨a,b,c,d,e,by show((eF f J).c.set _ _).length=_;rw[List.length_set,g]⟩
theorem aDI(f:fZ):∀(J:List aR) (hl:∀r∈J,r.1<f.c.length) (b:Nat),(∀r,fst J b=some r->cu (eF f J) b=r.2.1/\(eF f J).n b=r.2.2)/\(fst J b=none->cu (eF f J) b=cu f b/\(eF f J).n b=f.n b)
 | [],_,b=>⟨fun r h=>by simp[fst]at h,fun _=>⟨rfl,rfl⟩⟩
 | r :: J,hl,b=>by
  obtain⟨i,j⟩:=aDI f J (fun x a=>hl x (List.mem_cons_of_mem _ a)) b;have g:r.1 <(eF f J).c.length:=by rw[(pH f J).2.2.2.2.2];exact hl r List.mem_cons_self
  have k:cu (eF f (r :: J)) b=if r.1=b then r.2.1 else cu (eF f J) b:=fH (eF f J) r.1 b r.2.1 g;have c:(eF f (r :: J)).n b=if b=r.1 then r.2.2 else(eF f J).n b:=rfl;have d:fst (r :: J) b=if r.1=b then some r else fst J b:=by
   unfold fst;rw[List.find?_cons];by_cases e:r.1=b
   ·simp[e]
   ·have:(r.1 == b)=false:=by simpa using e
    simp[this,e]
  rw[k,c,d];by_cases e:r.1=b
  ·rw[if_pos e,if_pos e,if_pos e.symm]
   exact⟨fun x a=>by cases a;exact⟨rfl,rfl⟩,fun h=>by cases h⟩
  ·rw[if_neg e,if_neg e,if_neg (fun q=>e q.symm)]
   exact⟨i,j⟩
theorem JI.cB{J:List aR}(h:JI f0 f J):{eF f J with r:=f0.r}=f0:=by
 obtain⟨r1,r2,r3,r4,v,t⟩:=pH f J;have d:=aDI f J (fun r s=>by rw[h.len];exact h.lt r s);have key:∀b,cu (eF f J) b=cu f0 b/\(eF f J).n b=f0.n b:=fun b=>by
  cases e:fst J b with
  | some r=>
   obtain⟨a,c⟩:=(d b).1 r e;have:=h.old b r e;rw[this]at a c;exact⟨a,c⟩
  | none=>
   obtain⟨a,c⟩:=(d b).2 e;obtain⟨o,p⟩:=h.new b e;exact⟨a.trans o,c.trans p⟩
 have g:(eF f J).c=f0.c:=by
  refine List.ext_getElem? fun i=>?_;have u:(eF f J).c.length=f0.c.length:=t.trans h.len;have:=(key i).1;unfold cu at this;rw[gD,gD]at this;by_cases q:i<f0.c.length
  ·rw[gE (by omega),gE q]at this |-
   simpa using this
  ·rw[List.getElem?_eq_none (by omega),List.getElem?_eq_none (by omega)]
 have j:(eF f J).n=f0.n:=funext fun b=>(key b).2;have k:=r1.trans h.next;have l:=r2.trans h.gen;have m:=r3.trans h.m;have n:=r4.trans h.table;cases f0;simp only at *;simp only[g,j,k,l,m,n]
theorem few:∀(n:Nat) (l:List Nat),l.Nodup->(∀x∈l,x<n)->l.length<=n
 | 0,l,_,h=>by
  cases l with
  | nil=>simp
  | cons a l=>exact absurd (h a List.mem_cons_self) (by omega)
 | n+1,l,d,h=>by
  have k:=few n (l.filter fun x=>x != n) (d.filter _) (fun x b=>by
   have:=List.mem_filter.1 b
   have i:=h x this.1;have c:x≠n:=by simpa using this.2
   omega)
  have i:l.length<=(l.filter fun x=>x != n).length+1:=by
   have c:∀m:List Nat,m.Nodup->m.length<=(m.filter fun x=>x != n).length+1:=fun m j=>by
    induction m with
    | nil=>simp
    | cons a m ih=>
     have f:=List.nodup_cons.1 j;have:=ih f.2;by_cases e:a=n
     ·subst e
      have g:m.filter (fun x=>x != a)=m:=List.filter_eq_self.2 fun x b=>by simp;exact fun q=>f.1 (q▸b)
      simp[g]
     ·have:(a != n)=true:=by simpa using e
      simp only[List.filter_cons,this,if_true,List.length_cons];omega
   exact c l d
  omega
theorem aBR(w:Wk f t H)(p:aN f t H P b (h+1) lo hi)(h3:P≠[]->3<=sz f.n b)(hr:cI f t H)(v:Mem f.n (h+1) b key){g1:fZ}(j:stepDel f b key=some (g1,c)):
  (∃es,g1.n b=some (2,es)/\es.length≠1/\delAt (h+1) f t b key=delAt h g1 t c key/\Wk g1 t H/\(∃P' lo' ap,aN g1 t H P' c h lo' ap)/\3<=sz g1.n c/\cI g1 t H/\Mem g1.n h c key) \/
  (∃e,g1.n b=some (2,[e])/\ch e=c/\b=aB g1 t/\t<g1.r.length/\IC g1/\delAt (h+1) f t b key=delAt h (fallF g1 t (aB g1 t) c) t c key/\∃H',Wk (fallF g1 t (aB g1 t) c) t H'/\aN (fallF g1 t (aB g1 t) c) t H' [] c h none none/\cI (fallF g1 t (aB g1 t) c) t H'/\Mem (fallF g1 t (aB g1 t) c).n h c key):=by
 have st:=w.stepDel p hr h3 v j;obtain⟨lo',ap,k⟩:=st.path;have d:delAt (h+1) f t b key=if(look g1 b).2.length=1 then delAt h (fallF g1 t (aB g1 t) (kd (look g1 b).2 0)) t c key else delAt h g1 t c key:=by
  conv=>lhs;unfold delAt
  rw[j]
 rcases st.many with⟨es,a,g⟩ | ⟨u,e,a,g⟩
 ·have r:cI g1 t H:=by
   rcases st.rt hr with q | ⟨_,e,q,_⟩
   ·exact q
   ·rw[a]at q;cases q;simp at g
  refine .inl ⟨es,a,by omega,?_,st.wk,⟨_,_,_,k⟩,st.spare,r,st.mem⟩;rw[d,aE a];exact if_neg (by simp only;omega)
 ·rw[aE a]at d
  rw[if_pos (show([e]:List E3).length=1 from rfl)]at d;have x:kd [e] 0=ch e:=rfl;rw[x]at d;subst u;rcases st.up.top with⟨_,q,z⟩ | ⟨q,_⟩
  ·subst z
   have i:=a;rw[q]at a;have s:cu g1 (aB g1 t)=1:=by have:=(st.up.named st.wk.ic st.wk.tl b List.mem_cons_self).1;rw[q]at this;exact this
   have y:cu g1 (ch e)=1:=by rw[g];exact(k.named st.wk.ic st.wk.tl c List.mem_cons_self).1
   obtain⟨l,m,A,n,B,o⟩:=st.wk.cm a s y;rw[g]at l m A n B o d;exact .inr ⟨e,i,g,q,st.wk.tl,st.wk.ic,d,_,l,m,n,o key st.mem⟩
  ·cases q
