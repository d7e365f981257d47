import Derived.Test.YtmpagpeenjddgaaGreatFo28
set_option linter.all false
namespace Go.Proofs.YtmpagpeenjddgaaGreat.Fo
variable{th:Bool}{key val:ByteArray}{P:List Nat}{H b c h t:Nat}{hi lo:OB}{α:Type}{f g:fZ}
def nO(nodes:Nat->Option Nd):Nat->Nat->List Nat
 | 0,b=>(List.range (mT nodes b).length).map fun j=>5*b+j
 | h+1,b=>(mT nodes b).flatMap fun e=>nO nodes h (ch e)
def aEB(nodes:Nat->Option Nd)(c:Nat):ByteArray:=ky (mT nodes (c / 5)) (c % 5)
theorem yR(r:IC f):∀{h b:Nat} {lo hi:OB},Ok f.n h b lo hi->(bN f.n h b).map (fun p=>p.1)=(nO f.n h b).map (aEB f.n)/\∀c∈nO f.n h b,c<5*f.c.length
 | 0,b,lo,hi,k=>by
  obtain⟨d,s,_,o,_⟩:=k.bj;have B:=r.lt s;have i:mT f.n b=d.2:=dH s;unfold bN nO;rw[i];constructor
  ·refine List.ext_getElem? fun j=>?_
   rw[List.getElem?_map,List.getElem?_map,List.getElem?_map,List.getElem?_map];by_cases g:j<d.2.length
   ·rw[gE g,List.getElem?_range g]
    simp only[Option.map_some,sJ];unfold aEB;rw[show(5*b+j) / 5=b by omega,show(5*b+j) % 5=j by omega,i];unfold ky;rw[gD,gE g];rfl
   ·rw[List.getElem?_eq_none (by omega),List.getElem?_eq_none (by simp;omega)];rfl
  ·intro c n
   obtain⟨j,g,rfl⟩:=List.mem_map.1 n;have:=List.mem_range.1 g;omega
 | h+1,b,lo,hi,k=>by
  obtain⟨es,v,y,z,A,o⟩:=k;have i:mT f.n b=es:=dH v;unfold bN nO;rw[i];have key:∀e∈es,(bN f.n h (ch e)).map (fun p=>p.1)=(nO f.n h (ch e)).map (aEB f.n)/\∀c∈nO f.n h (ch e),c<5*f.c.length:=fun e w=>by
   obtain⟨j,g,rfl⟩:=cO w;exact yR r (o j g).2
  constructor
  ·rw[List.map_flatMap,List.map_flatMap]
   have m:∀l:List E3,(∀e∈l,e∈es)->l.flatMap (fun a=>(bN f.n h (ch a)).map fun p=>p.1)=l.flatMap (fun a=>(nO f.n h (ch a)).map (aEB f.n)):=by
    intro l;induction l with
    | nil=>intro _;rfl
    | cons a l ih=>
     intro t;rw[List.flatMap_cons,List.flatMap_cons,(key a (t a List.mem_cons_self)).1,ih fun e i=>t e (List.mem_cons_of_mem _ i)]
   exact m es fun _ q=>q
  ·intro c n
   obtain⟨e,u,x⟩:=List.mem_flatMap.1 n;exact(key e u).2 c x
theorem vN(g:IC f)(k:Ok f.n h b lo hi):(bN f.n h b).length<=2560:=by
 obtain⟨c,j⟩:=yR g k;have o:=oD k;have n:(nO f.n h b).Nodup:=by
  have d:((bN f.n h b).map fun p=>p.1).Pairwise fun p q=>kl p q=true:=List.pairwise_map.2 o;rw[c]at d;have l:=List.pairwise_map.1 d;refine l.imp fun {a b} i e=>?_;rw[e,eI]at i;cases i
 have:=few (5*f.c.length) _ n j
 have m:=congrArg List.length c;rw[List.length_map,List.length_map]at m;have:=g.al;omega
theorem aAX(w:Wk f t H)(p:aN f t H P b (h+1) lo hi)(l:VE f)(u:loR lo key)(d:Fo.stepDown f b key=some (g,c)):VE g:=by
 obtain⟨es,j,y,n⟩:=p.inner w;obtain⟨w1,x,r1⟩:=w.bu p j key u;have m:VE (setN f b (2,lowK es key)):=l.setN b (VL.lowK (l b _ j) key);rw[qH j]at d;generalize hK:lowK es key=a at *;have r:(setN f b (2,a)).n b=some (2,a):=aD _ _ _;have o:a.length=es.length:=by rw[<-hK];exact cN es key
 have v:a≠[]:=fun e=>n (List.length_eq_zero_iff.1 (by rw[<-o,e];rfl));have q:bI a key<a.length:=eJ key v;cases k:shadow (setN f b (2,a)) (.ai b (bI a key))with
 | none=>rw[k]at d;cases d
 | some s=>
  obtain⟨g1,c1⟩:=s;rw[k]at d;have i:=m.aj w1.ic r q k;simp only at d;split at d
  ·split at d
   ·cases d
   ·cases d
    exact i.splitF b (i.look b) _ _ _ (i.look c1) _ _ _
  ·cases d;exact i
theorem uD:∀{h:Nat} {f:fZ} (w:Wk f t H) {P:List Nat} {b:Nat} {lo hi:OB} (p:aN f t H P b h lo hi) (hl:loR lo key) (hh:hiR hi key) (h5:sz f.n b<5) (hV:VE f) {g:fZ} {th:Bool} (hs:Fo.putAt h f b key val=some (g,th)),VE g
 | 0,f,w,P,b,lo,hi,p,hl,hh,h5,hV,g,th,hs=>by
  obtain⟨es,c,q,e⟩:=p.leaf w;unfold Fo.putAt at hs;rw[aE c]at hs;simp only[sJ,Prod.mk.injEq]at hs;obtain⟨rfl,rfl⟩:=hs;exact hV.setN b (VL.putE (hV b _ c) key val e)
 | h+1,f,w,P,b,lo,hi,p,hl,hh,h5,hV,g,th,hs=>by
  unfold Fo.putAt at hs;cases a:Fo.stepDown f b key with
  | none=>rw[a]at hs;cases hs
  | some d=>
   obtain⟨g1,c1⟩:=d;rw[a]at hs;obtain⟨n,l,o,w1,m,i,j,k,r,s⟩:=w.stepDown p hl hh h5 a;exact uD w1 m i j k (aAX w p hV hl a) hs
theorem aNY(w:Wk f t H)(B:VE f)(a:Fo.put f t H key val=some (g,th)):VE g:=by
 unfold Fo.put at a;cases i:shadow f (.root t)with
 | none=>rw[i]at a;cases a
 | some gr=>
  obtain⟨g1,r1⟩:=gr;rw[i]at a;simp only at a;have j:=B.ak i;obtain⟨w1,v,z,K,q,L,M,N⟩:=w.ak i;obtain⟨⟨k,es⟩,d⟩:=w1.ic.live (x:=r1) (by rw[q];omega);have O:es.length<=5:=by
   obtain⟨d',d1,_,d2,_⟩:=((v.ok w1.ok).1).bj;rw[d]at d1;cases d1;exact d2
  rw[aE d]at a;simp only at a;by_cases c:es.length=5
  ·rw[if_pos c]at a
   cases b:bL g1 t r1 with
   | none=>rw[b]at a;cases a
   | some C=>
    obtain⟨R,I⟩:=C;rw[b]at a;simp only at a;unfold bL at b;rw[aE d]at b;simp only at b;by_cases o:aF g1=0
    ·rw[if_pos o]at b;cases b
    ·rw[if_neg o]at b
     generalize hT:aF (takeAt (setN g1 r1 (k,es.take 3)) (aF g1) (k,es.drop 3))=p at *;by_cases l:p=0
     ·rw[if_pos l]at b;cases b
     ·rw[if_neg l]at b
      simp only[sJ,Prod.mk.injEq]at b;obtain⟨rfl,rfl⟩:=b;obtain⟨D,r,E,S⟩:=aO o;obtain⟨s,u,h,T⟩:=aO (hT▸l);rw[hT]at s u h;have G:∀x,cu (takeAt (setN g1 r1 (k,es.take 3)) (aF g1) (k,es.drop 3)) x=if aF g1=x then 1 else cu g1 x:=fun x=>dV (f:=setN g1 r1 (k,es.take 3)) (k,es.drop 3) r x;rw[G]at h;have y:p≠aF g1:=fun e=>by rw[if_pos e.symm]at h;omega
      rw[if_neg (Ne.symm y)]at h;have n:p<g1.c.length:=by simpa [takeAt,setN] using u
      subst z;obtain⟨J,F,P,Q,A⟩:=w1.grow q d (m:=3) (by omega) (by omega) D r E s n h y;exact uD J F trivial trivial (by unfold sz;rw[A];simp) (j.growF _ _ _ (j _ _ d) _ _ _ _ _) a
  ·rw[if_neg c]at a
   exact uD w1 v trivial trivial (by unfold sz;rw[d];simp only;omega) j a
theorem aDA(w:Wk f t H)(p:aN f t H P b (h+1) lo hi)(r:VE f)(h2:2<=sz f.n b)(a:Fo.stepDel f b key=some (g,c)):VE g:=by
 obtain⟨es,e,A,o⟩:=p.inner w;have s:2<=es.length:=by unfold sz at h2;rw[e]at h2;exact h2
 have m:bI es key<es.length:=eJ key o;unfold Fo.stepDel at a;rw[aE e]at a;simp only at a;cases i:shadow f (.ai b (bI es key))with
 | none=>rw[i]at a;cases a
 | some q=>
  obtain⟨g1,c1⟩:=q;rw[i]at a;have l:=r.aj w.ic e m i;obtain⟨w1,y,z,⟨es',j,u,v,x⟩,_⟩:=w.aj p e m i;simp only at a;rw[aE j]at a;simp only at a;split at a
  ·cases a;exact l
  ·split at a
   ·rename_i n
    cases d:fillNext g1 b (bI es key) c1 with
    | none=>rw[d]at a;cases a
    | some k=>rw[d]at a;cases a;exact l.fillNext w1.ic j n d
   ·rename_i n
    cases d:fillLast g1 b (bI es key) c1 with
    | none=>rw[d]at a;cases a
    | some k=>rw[d]at a;cases a;exact l.fillLast w1.ic j (by omega) (by omega) d
theorem uC:∀{h H:Nat} {f:fZ} (w:Wk f t H) {P:List Nat} {b:Nat} {lo hi:OB} (p:aN f t H P b h lo hi) (h3:P≠[]->3<=sz f.n b) (hr:cI f t H) (hm:Mem f.n h b key) (hV:VE f) {g:fZ} (hs:Fo.delAt h f t b key=some g),VE g
 | 0,H,f,w,P,b,lo,hi,p,h3,hr,hm,hV,g,hs=>by
  obtain⟨es,l,I,G⟩:=p.leaf w;unfold Fo.delAt at hs;rw[aE l]at hs;simp only[sJ]at hs;subst hs;exact hV.setN b (VL.delE (hV b _ l) _)
 | h+1,H,f,w,P,b,lo,hi,p,h3,hr,hm,hV,g,hs=>by
  unfold Fo.delAt at hs;cases i:Fo.stepDel f b key with
  | none=>rw[i]at hs;cases hs
  | some y=>
   obtain⟨g1,c⟩:=y;rw[i]at hs;simp only at hs;have z:2<=sz f.n b:=by
    by_cases d:P=[]
    ·rcases p.top with⟨_,q,n⟩ | ⟨q,_⟩
     ·rcases hr with hr | hr
      ·omega
      ·rw[<-q]at hr;exact hr
     ·subst d;cases q
    ·have:=h3 d;omega
   have k:=aDA w p hV z i;have st:=w.stepDel p hr h3 hm i;obtain⟨C,F,m⟩:=st.path;rcases st.many with⟨es,a,j⟩ | ⟨d,e,a,j⟩
   ·rw[aE a]at hs
    simp only at hs
    rw[if_neg (by omega)]at hs;have v:cI g1 t H:=by
     rcases st.rt hr with q | ⟨_,e,q,_⟩
     ·exact q
     ·rw[a]at q;cases q;simp at j
    exact uC st.wk m (fun _=>st.spare) v st.mem k hs
   ·rw[aE a]at hs
    rw[if_pos (show([e]:List E3).length=1 from rfl)]at hs;have A:kd [e] 0=ch e:=rfl;rw[A]at hs;subst d;rcases st.up.top with⟨_,q,n⟩ | ⟨q,_⟩
    ·subst n
     rw[q]at a;have x:cu g1 (aB g1 t)=1:=by have:=(st.up.named st.wk.ic st.wk.tl b List.mem_cons_self).1;rw[q]at this;exact this
     have B:cu g1 (ch e)=1:=by rw[j];exact(m.named st.wk.ic st.wk.tl c List.mem_cons_self).1
     obtain⟨o,r,D,s,E,u⟩:=st.wk.cm a x B;rw[j]at o r D s E u hs;exact uC o r (fun q=>absurd rfl q) s (u key st.mem) (k.fallF _ _ _) hs
    ·cases q
theorem qU(w:Wk f t H)(l:Mem f.n H (aB f t) key){g1:fZ}{r:Nat}(a:shadow f (.root t)=some (g1,r)):Mem g1.n H r key:=by
 obtain⟨w1,T,N,u,O,P,Q,R⟩:=w.ak a;unfold shadow at a;have B:bK f (.root t)=aB f t:=rfl;rw[B]at a;by_cases o:own f (aB f t)
 ·rw[if_pos o]at a;cases a;exact l
 ·rw[if_neg o]at a
  by_cases j:aF f=0
  ·rw[if_pos j]at a;cases a
  ·rw[if_neg j]at a
   simp only[sJ,Prod.mk.injEq]at a;obtain⟨F,K⟩:=a;obtain⟨D,E,p,_⟩:=aO j;obtain⟨d,n⟩:=w.ic.ao (aP w.tl);have h:f.n (aB f t)=some d:=n;obtain⟨M,s,_⟩:=w.ic.shadow (L:=.root t) w.tl rfl n D E p;have y:f.n (aF f)=none:=(w.ic.a8.dead _).2 p;have q:g1.n=if cu f (aB f t)=1 then upd (upd f.n (aF f) (some d)) (aB f t) none else upd f.n (aF f) (some d):=by rw[<-F];exact s
   let U:Nat->Prop:=fun x=>(∃d,f.n x=some d)/\(cu f (aB f t)=1->x≠aB f t)
   have G:∀x d,U x->f.n x=some d->∀c∈kids d,U c:=fun x d' _ g c b=>
    ⟨w.ic.af g b,fun i e=>(w.ic.a2 (aP w.tl) i).2 x d' g (by have:c=(f.r.getD t (0,0)).2.toNat:=e;rw[<-this];exact b)⟩
   have z:∀x,U x->g1.n x=f.n x:=fun x ⟨⟨d',g⟩,i⟩=>by
    have m:x≠aF f:=fun e=>by rw[e,y]at g;cases g
    rw[q];split
    ·rename_i J;rw[aC _ _ (i J),aC _ _ m]
    ·rw[aC _ _ m]
   have I:g1.n r=some d:=by rw[u];exact h
   rw[bX I];rw[bX h]at l;obtain⟨k,v⟩:=d;exact l.more (fun e A=>A) fun c b S C=>Mem.frame G z _ _ ⟨w.ic.af h b,fun _ e=>w.ic.ag h (e▸b)⟩ C
theorem aGY(w:Wk f t H)(hr:cI f t H)(e:Mem f.n H (aB f t) key)(d:VE f)(a:bU f t H key=some g):VE g:=by
 unfold bU at a;cases b:shadow f (.root t)with
 | none=>rw[b]at a;cases a
 | some gr=>
  obtain⟨g1,r⟩:=gr;rw[b]at a;simp only at a;obtain⟨w1,h,i,j,k,l,c,m⟩:=w.ak b;exact uC w1 h (fun q=>absurd rfl q) (c hr) (qU w e b) (d.ak b) a
theorem aKN(a:VE f)(t:Nat):VE (cU f t):=a.sub fun _ _ q=>q
theorem aML(h:Inv f)(a:VE f)(ht:t<f.r.length)(h1:1<f.r.length)(b:Ok f.n H (aB f t) none none):VE (drop f t H).1:=a.sub fun x d q=>by
 obtain⟨_,_,_,_,_,_,_,_,_,c⟩:=nT h ht h1 b;rcases c x with e | e
 ·rw[<-e];exact q
 ·rw[e]at q;cases q
theorem aGZ(a:VE f)(p:List Int):VE (dR f p):=a.sub fun _ _ q=>q
theorem pD(n:Nat):VE (aH n):=fun x d b=>by
 have a:(if x=2 then some ((1:Int),([]:List E3))else none)=some d:=b;split at a
 ·cases a;exact VL.nil
 ·cases a
theorem zY{nodes:Nat->Option Nd}:∀{h b:Nat} {lo hi:OB},Ok nodes h b lo hi->Mem nodes h b key->∃v,find nodes h b key=some v
 | 0,b,lo,hi,c,d=>by
  obtain⟨es,a,e,_⟩:=c;obtain⟨es',f,j,m,l⟩:=d;rw[a]at f;cases f;refine⟨(es.getD (cLt es key) e0).2.1,?_⟩;simp only[find,dH a];rw[if_pos (kC e.a6 m l).1]
 | h+1,b,lo,hi,c,d=>by
  have o:=c;obtain⟨es,a,e,g,p,i⟩:=c;have k:=eJ key g;obtain⟨v,n⟩:=zY (i _ k).2 (Mem.at a o d);exact⟨v,by simp only[find,dH a];exact n⟩
theorem aGE(w:Wk f t H)(c:put f t H key val=some (g,th)):th=(find f.n H (aB f t) key).isSome:=by
 have h:=aGF w c;cases a:find f.n H (aB f t) key with
 | none=>
  cases th with
  | false=>rfl
  | true=>
   obtain⟨v,b⟩:=zY w.ok (h.1 rfl);rw[a]at b;cases b
 | some v=>rw[h.2 (jQ w.ok a)];rfl
theorem aFD{L:List Nat}(hn:L.Nodup)(h:∀x,x∈L↔x<f.c.length/\0<cu f x/\co f x=0):L.length=dY f:=
 ((List.perm_ext_iff_of_nodup hn (mJ f _)).2 fun x=>by rw[h x,kZ]).length_eq
theorem vH(f:fZ):dY f<=f.c.length:=kY f _
abbrev VW:=Int×Int×Int×Int×Int
def fD(f:fZ)(b:Nat)(dp:Int):VW:=((b:Int),dp,(look f b).1,((look f b).2.length:Int),cu f b)
def cK(f:fZ):Nat->Nat->Int->List VW
 | 0,b,dp=>[fD f b dp]
 | h+1,b,dp=>fD f b dp ::(look f b).2.flatMap fun e=>cK f h (ch e) (dp+1)
theorem cP{d:Nd}(h:f.n b=some d):look f b=d:=by unfold look;rw[h];rfl
theorem aIJ{β:Type}(l:List E3)(V:E3->List α)(I:E3->List β)(h:∀e∈l,(V e).length+1<=2*(I e).length):(l.flatMap V).length+l.length<=2*(l.flatMap I).length:=by
 induction l with
 | nil=>simp
 | cons a l ih=>
  have c:=h a List.mem_cons_self;have d:=ih fun e b=>h e (List.mem_cons_of_mem _ b);rw[List.flatMap_cons,List.flatMap_cons,lP,lP,List.length_cons];omega
theorem wK:∀{h b:Nat} {lo hi:OB},Ok f.n h b lo hi->∀dp:Int,2<=sz f.n b->(cK f h b dp).length+1<=2*(bN f.n h b).length
 | 0,b,lo,hi,k,dp,i=>by
  obtain⟨es,a,_⟩:=k;have:sz f.n b=es.length:=by unfold sz;rw[a]
  simp only[cK,bN,dH a,List.length_map,List.length_singleton];omega
 | h+1,b,lo,hi,k,dp,i=>by
  obtain⟨es,a,m,n,o,c⟩:=k;have l:sz f.n b=es.length:=by unfold sz;rw[a]
  have p:=aIJ es (fun e=>cK f h (ch e) (dp+1)) (fun e=>bN f.n h (ch e)) fun e g=>by
   obtain⟨j,d,rfl⟩:=cO g;exact wK (c j d).2 (dp+1) (c j d).1
  simp only[cK,bN,dH a,cP a,List.length_cons];omega
theorem aHA(c:IC f)(k:Ok f.n h b lo hi)(a:Int)(d:h=0\/2<=sz f.n b):(cK f h b a).length<=5120:=by
 rcases d with e | e
 ·subst e;simp[cK]
 ·have:=wK k a e
  have:=vN c k
  omega
theorem sC{f g:E3->List α}:∀{l:List E3},(∀e∈l,f e=g e)->l.flatMap f=l.flatMap g
 | [],_=>rfl
 | a :: l,h=>by
  rw[List.flatMap_cons,List.flatMap_cons,h a List.mem_cons_self,sC fun e b=>h e (List.mem_cons_of_mem _ b)]
def uE(f:fZ):Nat->Nat->Int->List VW
 | 0,b,dp=>[fD f b dp]
 | n+1,b,dp=>fD f b dp :: if(look f b).1=2 then(look f b).2.flatMap fun e=>uE f n (ch e) (dp+1)else []
theorem wI:∀{h b:Nat} {lo hi:OB},Ok f.n h b lo hi->∀(n:Nat) (dp:Int),h<=n->uE f n b dp=cK f h b dp
 | 0,b,lo,hi,k,n,dp,i=>by
  obtain⟨es,a,_⟩:=k;cases n with
  | zero=>rfl
  | succ n=>simp[uE,cK,cP a]
 | h+1,b,lo,hi,k,n,dp,i=>by
  obtain⟨es,a,l,m,o,c⟩:=k;cases n with
  | zero=>omega
  | succ n=>
   simp only[uE,cK,cP a,if_true];refine congrArg _ (sC fun e d=>?_);obtain⟨j,g,rfl⟩:=cO d;exact wI (c j g).2 n (dp+1) (by omega)
theorem nF:∀{h b:Nat} {lo hi:OB},Ok f.n h b lo hi->∀dp:Int,h+1<=(cK f h b dp).length
 | 0,b,lo,hi,k,dp=>by simp[cK]
 | h+1,b,lo,hi,k,dp=>by
  obtain⟨es,c,i,d,j,g⟩:=k;cases es with
  | nil=>exact absurd rfl d
  | cons a es=>
   have:=nF (g 0 (by simp)).2 (dp+1)
   simp only[cK,cP c,List.length_cons,List.flatMap_cons,lP];have e:kd (a :: es) 0=ch a:=rfl;rw[e]at this;omega
def shp(f:fZ)(b:Nat):List VW:=uE f 6000 b 0
theorem xW(c:IC f)(k:Ok f.n h b none none)(d:h=0\/2<=sz f.n b):shp f b=cK f h b 0/\h<=5120/\(cK f h b 0).length<=5120:=by
 have a:=aHA c k 0 d;have e:=nF k 0;exact⟨wI k 6000 0 (by omega),by omega,a⟩
