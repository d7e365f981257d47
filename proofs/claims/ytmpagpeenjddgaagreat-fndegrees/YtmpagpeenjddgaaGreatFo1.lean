import Derived.Laws.Strings
import Derived.Test.YtmpagpeenjddgaaGreatSh0
set_option linter.all false
namespace Go.Proofs.YtmpagpeenjddgaaGreat.Fo
variable{a:ByteArray}{k:Int}{r:Int×Int}{b c i m n p q s t v x:Nat}{g g' ht:Nat->Nat}{α:Type}
abbrev E3:=ByteArray×ByteArray×Int
abbrev e0:E3:=(.empty,.empty,0)
abbrev Nd:=Int×List E3
structure fZ where
 r:List (Int×Int)
 next:Int
 gen:Int
 n:Nat->Option Nd
 c:List Int
 m:List Int
 table:List Int
def cu(f:fZ)(b:Nat):Int:=f.c.getD b 0
def co(f:fZ)(b:Nat):Int:=f.m.getD b 0
def look(f:fZ)(b:Nat):Nd:=(f.n b).getD (0,[])
def ch(e:E3):Nat:=e.2.2.toNat
def kids(d:Nd):List Nat:=if d.1=2 then d.2.map ch else []
def cF:Option Nd->List Nat
 | none=>[]
 | some d=>kids d
def upd(g:Nat->α)(b:Nat)(v:α):Nat->α:=fun x=>if x=b then v else g x
theorem aE(g:Nat->α)(b:Nat)(v:α):upd g b v b=v:=by simp[upd]
theorem aC(g:Nat->α)(v:α)(h:x≠b):upd g b v x=g x:=by simp[upd,h]
def cX:Nat->(Nat->Nat)->Nat
 | 0,_=>0
 | n+1,g=>cX n g+g n
theorem qK(h:∀x,x<n->g x=g' x):cX n g=cX n g':=by
 induction n with
 | zero=>rfl
 | succ n ih=>simp only[cX];rw[ih fun x a=>h x (by omega),h n (by omega)]
theorem mE(a:b<n)(h:∀x,x≠b->g' x=g x):cX n g'+g b=cX n g+g' b:=by
 induction n with
 | zero=>omega
 | succ n ih=>
  simp only[cX];by_cases e:b=n
  ·subst e
   rw[qK (g:=g') (g':=g) fun x c=>h x (by omega)];omega
  ·have:=ih (by omega)
   rw[h n (fun q=>e q.symm)];omega
theorem oX(a:b<n):g b<=cX n g:=by
 induction n with
 | zero=>omega
 | succ n ih=>
  simp only[cX];by_cases e:b=n
  ·subst e;omega
  ·have:=ih (by omega);omega
theorem aGX{a:Nat}(c:a<n)(d:b<n)(f:a≠b):g a+g b<=cX n g:=by
 induction n with
 | zero=>omega
 | succ n ih=>
  simp only[cX];by_cases e:b=n
  ·subst e;have:=oX (g:=g) (show a<b by omega);omega
  ·by_cases e':a=n
   ·subst e';have:=oX (g:=g) (show b<a by omega);omega
   ·have:=ih (by omega) (by omega);omega
theorem jQ(h:0<cX n g):∃x,x<n/\0<g x:=by
 induction n with
 | zero=>simp[cX]at h
 | succ n ih=>
  simp only[cX]at h;by_cases e:0<g n
  ·exact⟨n,by omega,e⟩
  ·obtain⟨x,b,a⟩:=ih (by omega);exact⟨x,by omega,a⟩
def deg(nodes:Nat->Option Nd)(n b:Nat):Nat:=cX n fun x=>(cF (nodes x)).count b
def rc(roots:List (Int×Int))(b:Nat):Nat:=(roots.map fun r=>r.2.toNat).count b
theorem wS(a:Nat->Option Nd)(v:Option Nd)(hx:x<n)(b:Nat):deg (upd a x v) n b+(cF (a x)).count b=deg a n b+(cF v).count b:=by
 have:=mE (n:=n) (g:=fun y=>(cF (a y)).count b) (g':=fun y=>(cF (upd a x v y)).count b) hx (fun y c=>by simp only[aC _ _ c])
 simpa [deg,aE] using this
theorem dI(l:List Int)(i j:Nat)(v:Int):(l.set i v).getD j 0=if i=j/\i<l.length then v else l.getD j 0:=by
 simp only[gD,List.getElem?_set];by_cases h:i=j
 ·subst h
  by_cases a:i<l.length
  ·simp[a]
  ·simp[a]
 ·simp[h]
def iQ(c:List Int):List Nat->List Int
 | []=>c
 | k :: l=>iQ (c.set k (c.getD k 0+1)) l
theorem mW(l:List Nat)(c:List Int):(iQ c l).length=c.length:=by
 induction l generalizing c with
 | nil=>rfl
 | cons k l ih=>simp only[iQ];rw[ih];simp
theorem sO(l:List Nat)(c:List Int)(h:∀k∈l,k<c.length)(b:Nat):(iQ c l).getD b 0=c.getD b 0+(l.count b:Nat):=by
 induction l generalizing c with
 | nil=>simp[iQ]
 | cons k l ih=>
  simp only[iQ];rw[ih _ (fun x d=>by simpa using h x (List.mem_cons_of_mem _ d)),dI,List.count_cons];have a:k<c.length:=h k (by simp);by_cases e:k=b
  ·subst e;simp[a];omega
  ·simp[e]
def df(f:fZ)(x:Nat):Int:=cu f x -((rc f.r x+deg f.n f.c.length x:Nat):Int)
def setN(f:fZ)(b:Nat)(d:Nd):fZ:={f with n:=upd f.n b (some d)}
def takeAt(f:fZ)(q:Nat)(d:Nd):fZ:={f with n:=upd f.n q (some d),c:=f.c.set q 1}
def freeB(f:fZ)(b:Nat):fZ:={f with n:=upd f.n b none,c:=f.c.set b 0}
def letGo(f:fZ)(b:Nat):fZ:=
 if cu f b=1 then freeB f b else {f with c:=iQ (f.c.set b (cu f b-1)) (cF (f.n b))}
abbrev Loc:=Sum Nat (Nat×Nat)
abbrev Loc.root(t:Nat):Loc:=.inl t
abbrev Loc.ai(b i:Nat):Loc:=.inr (b,i)
def setE(d:Nd)(i:Nat)(q:Nat):Nd:=(d.1,d.2.set i ((d.2.getD i e0).1,(d.2.getD i e0).2.1,(q:Int)))
def bN(f:fZ):Loc->Nat
 | .inl t=>(f.r.getD t (0,0)).2.toNat
 | .inr (b,i)=>ch ((look f b).2.getD i e0)
def setL(f:fZ)(L:Loc)(q:Nat):fZ:=match L with
 | .inl t=>{f with r:=f.r.set t ((f.r.getD t (0,0)).1,(q:Int))}
 | .inr (b,i)=>setN f b (setE (look f b) i q)
def one(b x:Nat):Nat:=if b=x then 1 else 0
theorem bV(b:Nat):one b b=1:=by simp[one]
theorem fA(h:b≠x):one b x=0:=by simp[one,h]
theorem fL(f:fZ)(q x:Nat)(v:Int)(a:q<f.c.length):(f.c.set q v).getD x 0=if q=x then v else cu f x:=by
 rw[dI];simp[a,cu]
theorem gF{f:fZ}{d d':Nd}(a:b<f.c.length)(hd:f.n b=some d)(x:Nat):
  df (setN f b d') x=df f x+((kids d).count x:Int) -((kids d').count x:Int):=by
 have:=wS f.n (some d') a x
 rw[hd]at this;simp only[cF]at this;simp only[df,setN,cu];omega
theorem lZ{f:fZ}{d:Nd}(a:q<f.c.length)(hn:f.n q=none)(hc:cu f q=0)(x:Nat):
  df (takeAt f q d) x=df f x+(one q x:Int) -((kids d).count x:Int):=by
 have:=wS f.n (some d) a x
 rw[hn]at this;simp only[cF,List.count_nil]at this;have b:=fL f q x 1 a;simp only[df,takeAt,cu,List.length_set]at *;rw[b];by_cases e:q=x
 ·subst e;rw[if_pos rfl,bV];omega
 ·rw[if_neg e,fA e];omega
theorem rX{f:fZ}{d:Nd}(a:b<f.c.length)(hd:f.n b=some d)(hc:cu f b=1)(x:Nat):
  df (freeB f b) x=df f x -(one b x:Int)+((kids d).count x:Int):=by
 have:=wS f.n none a x
 rw[hd]at this;simp only[cF,List.count_nil]at this;have c:=fL f b x 0 a;simp only[df,freeB,cu,List.length_set]at *;rw[c];by_cases e:b=x
 ·subst e;rw[if_pos rfl,bV];omega
 ·rw[if_neg e,fA e];omega
theorem yV{f:fZ}{d:Nd}(g:b<f.c.length)(hd:f.n b=some d)(i:∀c∈kids d,c<f.c.length)(x:Nat):
  df (letGo f b) x=df f x -(one b x:Int)+((kids d).count x:Int):=by
 unfold letGo;by_cases a:cu f b=1
 ·rw[if_pos a];exact rX g hd a x
 ·rw[if_neg a,hd]
  simp only[cF,df,cu,mW,List.length_set];rw[sO _ _ (fun k j=>by simpa using i k j)];have h:=fL f b x (cu f b-1) g;simp only[cu]at h;rw[h];by_cases e:b=x
  ·subst e;rw[if_pos rfl,bV];omega
  ·rw[if_neg e,fA e];omega
theorem count_set{l:List Nat}(v x:Nat)(b:i<l.length):(l.set i v).count x+(one (l.getD i 0) x)=l.count x+(one v x):=by
 induction l generalizing i with
 | nil=>simp at b
 | cons a l ih=>
  cases i with
  | zero=>simp only[List.set_cons_zero,List.count_cons,List.getD_cons_zero,beq_iff_eq,one];omega
  | succ i=>
   simp only[List.set_cons_succ,List.count_cons,List.getD_cons_succ];have:=ih (i:=i) (by simpa using b);omega
theorem gL(l:List E3)(i:Nat)(h:i<l.length):(l.map ch).getD i 0=ch (l.getD i e0):=by
 simp[gD,h]
theorem aHV(l:List E3)(i q:Nat):(l.set i ((l.getD i e0).1,(l.getD i e0).2.1,(q:Int))).map ch=(l.map ch).set i q:=by
 rw[List.map_set];congr 1
theorem aFS{d:Nd}(h2:d.1=2)(i q x:Nat)(a:i<d.2.length):
  ((kids (setE d i q)).count x:Nat)+(one (ch (d.2.getD i e0)) x)=(kids d).count x+(one q x):=by
 simp only[kids,setE,h2,if_true];rw[aHV];have:=count_set (l:=d.2.map ch) (i:=i) q x (by simpa using a);rw[gL _ _ a]at this;exact this
def dU(f:fZ):Loc->Prop
 | .inl t=>t<f.r.length
 | .inr (b,i)=>b<f.c.length/\∃es,f.n b=some (2,es)/\i<es.length
theorem aOK{rs:List (Int×Int)}(q x:Nat)(a:Int)(ht:t<rs.length):rc (rs.set t (a,(q:Int))) x+(one ((rs.getD t (0,0)).2.toNat) x)=rc rs x+(one q x):=by
 simp only[rc,List.map_set,Int.toNat_natCast];have:=count_set (l:=rs.map fun r=>r.2.toNat) (i:=t) q x (by simpa using ht);rw[<-this];congr 2;simp[gD,ht]
theorem wT{f:fZ}{L:Loc}(h:dU f L)(a:bN f L=b)(q x:Nat):
  df (setL f L q) x=df f x+(one b x:Int) -(one q x:Int):=by
 subst a;cases L with
 | inl t=>
  have:=aOK (rs:=f.r) q x (f.r.getD t (0,0)).1 h
  simp only[df,setL,cu,bN]at *;omega
 | inr e=>
  obtain⟨b,i⟩:=e;obtain⟨a,es,c,k⟩:=h;have l:look f b=(2,es):=by simp[look,c]
  have g:=gF (d':=setE (2,es) i q) a c x;have j:=aFS (d:=(2,es)) rfl i q x k;simp only[setL,bN,l];simp only at j;rw[g];omega
def kO(n:Nat)(d:Nd):Prop:=d.1=1\/(d.1=2/\d.2≠[]/\∀e∈d.2,0<=e.2.2/\ch e<n)
def HtN(ht:Nat->Nat)(v:Nat)(d:Nd):Prop:=(d.1=1/\v=0)\/(d.1=2/\∀c∈kids d,ht c+1=v)
def Hts(nodes:Nat->Option Nd)(ht:Nat->Nat):Prop:=∀b d,nodes b=some d->HtN ht (ht b) d
structure Dom(f:fZ):Prop where
 dead:∀b,f.n b=none↔cu f b=0
 pos:∀b,0<=cu f b
def KB(f:fZ):Prop:=∀b d,f.n b=some d->kO f.c.length d
def RB(f:fZ):Prop:=∀r∈f.r,0<=r.2/\r.2.toNat<f.c.length
structure IC(f:fZ):Prop where
 n8:8<=f.c.length
 al:f.c.length<=512
 len:f.m.length=f.c.length
 D0:∀x,x<f.c.length->df f x=0
 bb:Dom f
 two:∀b,b<2->f.n b=none
 rb:RB f
 kb:KB f
 ht:∃ht,Hts f.n ht
theorem kO.dx{d:Nd}(h:kO n d)(hc:c∈kids d):c<n:=by
 rcases h with h | ⟨h,_,a⟩
 ·simp[kids,h]at hc
 ·simp only[kids,h,if_true,List.mem_map]at hc
  obtain⟨e,b,rfl⟩:=hc;exact(a e b).2
theorem wR{f:fZ}(h:f.c.length<=b):cu f b=0:=by
 simp[cu,gD,h]
theorem aBP{nodes:Nat->Option Nd}{d:Nd}(hd:nodes b=some d)(a:b<n):(kids d).count c<=deg nodes n c:=by
 have:=oX (g:=fun x=>(cF (nodes x)).count c) a
 have e:(cF (nodes b)).count c=(kids d).count c:=by rw[hd];rfl
 rw[<-e];exact this
theorem aLR{nodes:Nat->Option Nd}{a:Nat}{d d':Nd}(hd:nodes a=some d)(h:a<n)(f:nodes b=some d')(i:b<n)(j:a≠b):(kids d).count c+(kids d').count c<=deg nodes n c:=by
 have:=aGX (g:=fun x=>(cF (nodes x)).count c) h i j
 have e:(cF (nodes a)).count c=(kids d).count c:=by rw[hd];rfl
 have e':(cF (nodes b)).count c=(kids d').count c:=by rw[f];rfl
 rw[<-e,<-e'];exact this
theorem IC.lt{f:fZ}(h:IC f){d:Nd}(hd:f.n b=some d):b<f.c.length:=by
 refine Nat.lt_of_not_le fun a=>?_;have:=(h.bb.dead b).2 (wR a);rw[hd]at this;cases this
theorem IC.dr{f:fZ}(h:IC f){d:Nd}(hd:f.n b=some d):2<=b:=by
 refine Nat.le_of_not_lt fun a=>?_;have:=h.two b a;rw[hd]at this;cases this
theorem IC.names{f:fZ}(h:IC f)(hx:x<f.c.length):cu f x=((rc f.r x+deg f.n f.c.length x:Nat):Int):=by
 have:=h.D0 x hx;unfold df at this;omega
theorem IC.live{f:fZ}(h:IC f)(hx:0<cu f x):∃d,f.n x=some d:=by
 cases e:f.n x with
 | none=>have:=(h.bb.dead x).1 e;omega
 | some d=>exact⟨d,rfl⟩
theorem IC.a7{f:fZ}(h:IC f){d:Nd}(hd:f.n b=some d):0<cu f b:=by
 have a:=h.bb.pos b;have c:cu f b≠0:=fun e=>by have:=(h.bb.dead b).2 e;rw[hd]at this;cases this
 omega
theorem IC.bg{f:fZ}(h:IC f){d:Nd}(hd:f.n b=some d)(hc:c∈kids d):c<f.c.length:=(h.kb b d hd).dx hc
theorem IC.af{f:fZ}(h:IC f){d:Nd}(hd:f.n b=some d)(hc:c∈kids d):∃d',f.n c=some d':=by
 have a:=h.bg hd hc;refine h.live ?_;rw[h.names a];have e:0 <(kids d).count c:=List.count_pos_iff.2 hc;have:=aBP (c:=c) hd (h.lt hd);omega
theorem IC.ao{f:fZ}(h:IC f)(hr:r∈f.r):∃d,f.n r.2.toNat=some d:=by
 refine h.live ?_;rw[h.names (h.rb r hr).2];have:0<rc f.r r.2.toNat:=List.count_pos_iff.2 (List.mem_map_of_mem hr);omega
theorem IC.only{f:fZ}(h:IC f){d:Nd}(h1:cu f c=1)(hd:f.n b=some d)(hc:c∈kids d):
  rc f.r c=0/\(kids d).count c=1/\∀b' d',f.n b'=some d'->c∈kids d'->b'=b:=by
 have i:=h.names (h.bg hd hc);have j:0 <(kids d).count c:=List.count_pos_iff.2 hc;have k:=aBP (c:=c) hd (h.lt hd);refine⟨by omega,by omega,fun b' d' a g=>?_⟩;by_cases e:b'=b
 ·exact e
 ·have l:=aLR (c:=c) a (h.lt a) hd (h.lt hd) e
  have m:0 <(kids d').count c:=List.count_pos_iff.2 g;omega
theorem IC.aD{f:fZ}(h:IC f)(hr:r∈f.r)(h1:cu f r.2.toNat=1):rc f.r r.2.toNat=1/\∀b d,f.n b=some d->r.2.toNat∉kids d:=by
 have g:=h.names (h.rb r hr).2;have i:0<rc f.r r.2.toNat:=List.count_pos_iff.2 (List.mem_map_of_mem hr);refine⟨by omega,fun b d a e=>?_⟩;have j:=aBP (c:=r.2.toNat) a (h.lt a);have k:0 <(kids d).count r.2.toNat:=List.count_pos_iff.2 e;omega
theorem IC.ag{f:fZ}(h:IC f){d:Nd}(hd:f.n b=some d):b∉kids d:=by
 obtain⟨ht,g⟩:=h.ht;intro a;rcases g b d hd with⟨c,_⟩ | ⟨_,e⟩
 ·simp[kids,c]at a
 ·have:=e b a;omega
theorem IC.ay{f:fZ}(h:IC f){d:Nd}(e:f.n q=none)(hd:f.n b=some d):q∉kids d:=fun c=>by
 obtain⟨d',a⟩:=h.af hd c;rw[e]at a;cases a
theorem HtN.congr{xd:Nat->Nat}{d:Nd}(h:HtN ht v d)(f:∀c∈kids d,xd c=ht c):HtN xd v d:=by
 rcases h with h | ⟨b,e⟩
 ·exact .inl h
 ·exact .inr ⟨b,fun c a=>by rw[f c a];exact e c a⟩
theorem Hts.dead{nodes:Nat->Option Nd}(h:Hts nodes ht){d:Nd}(g:∀b d,nodes b=some d->q∉kids d)(hd:HtN ht v d)(i:q∉kids d):Hts (upd nodes q (some d)) (upd ht q v):=by
 intro b d' a;by_cases e:b=q
 ·subst e
  rw[aE]at a |-;cases a;exact hd.congr fun c f=>aC _ _ (fun e=>i (e▸f))
 ·rw[aC _ _ e]at a |-
  exact(h b d' a).congr fun c f=>aC _ _ (fun e=>g b d' a (e▸f))
theorem Hts.same{nodes:Nat->Option Nd}(h:Hts nodes ht){d:Nd}(hd:HtN ht (ht b) d):Hts (upd nodes b (some d)) ht:=by
 intro x d' a;by_cases e:x=b
 ·subst e;rw[aE]at a;cases a;exact hd
 ·rw[aC _ _ e]at a;exact h x d' a
theorem Hts.gone{nodes:Nat->Option Nd}(h:Hts nodes ht)(b:Nat):Hts (upd nodes b none) ht:=by
 intro x d' a;by_cases e:x=b
 ·subst e;rw[aE]at a;cases a
 ·rw[aC _ _ e]at a;exact h x d' a
theorem Dom.setN{f:fZ}(h:Dom f){d d':Nd}(hd:f.n b=some d):Dom (setN f b d'):=by
 refine⟨fun x=>?_,h.pos⟩;show upd f.n b (some d') x=none↔cu f x=0
 by_cases e:x=b
 ·subst e;rw[aE,<-h.dead x,hd];simp
 ·rw[aC _ _ e];exact h.dead x
theorem Dom.takeAt{f:fZ}(h:Dom f){d:Nd}(b:q<f.c.length):Dom (takeAt f q d):=by
 have a:∀x,cu (Fo.takeAt f q d) x=if q=x then 1 else cu f x:=fun x=>fL f q x 1 b;refine⟨fun x=>?_,fun x=>?_⟩
 ·rw[a]
  show upd f.n q (some d) x=none↔_
  by_cases e:x=q
  ·subst e;rw[aE];simp
  ·rw[aC _ _ e,if_neg (Ne.symm e)];exact h.dead x
 ·rw[a];have:=h.pos x;split<;>omega
theorem Dom.freeB{f:fZ}(h:Dom f)(c:b<f.c.length):Dom (freeB f b):=by
 have a:∀x,cu (Fo.freeB f b) x=if b=x then 0 else cu f x:=fun x=>fL f b x 0 c;refine⟨fun x=>?_,fun x=>?_⟩
 ·rw[a]
  show upd f.n b none x=none↔_
  by_cases e:x=b
  ·subst e;rw[aE];simp
  ·rw[aC _ _ e,if_neg (Ne.symm e)];exact h.dead x
 ·rw[a];have:=h.pos x;split<;>omega
theorem rR{f:fZ}{d:Nd}(e:b<f.c.length)(hd:f.n b=some d)(g:∀c∈kids d,c<f.c.length)(h1:cu f b≠1)(x:Nat):
  cu (letGo f b) x=(if b=x then cu f b-1 else cu f x)+((kids d).count x:Int):=by
 unfold letGo;rw[if_neg h1,hd];simp only[cF,cu];rw[sO _ _ (fun k h=>by simpa using g k h)];have a:=fL f b x (cu f b-1) e;simp only[cu]at a;rw[a]
theorem Dom.letGo{f:fZ}(h:Dom f){d:Nd}(i:b<f.c.length)(hd:f.n b=some d)(k:∀c∈kids d,c<f.c.length/\f.n c≠none):Dom (letGo f b):=by
 by_cases a:cu f b=1
 ·have e:Fo.letGo f b=Fo.freeB f b:=by unfold Fo.letGo;rw[if_pos a]
  rw[e];exact h.freeB i
 ·have j:=rR i hd (fun c a=>(k c a).1) a
  have e:(Fo.letGo f b).n=f.n:=by unfold Fo.letGo;rw[if_neg a]
  have n:=h.pos b;have o:cu f b≠0:=fun e=>by have:=(h.dead b).2 e;rw[hd]at this;cases this
  refine⟨fun x=>?_,fun x=>?_⟩
  ·rw[e,j]
   by_cases g:b=x
   ·subst g;rw[if_pos rfl,hd];constructor
    ·intro q;cases q
    ·intro q;omega
   ·rw[if_neg g]
    have m:=h.pos x;constructor
    ·intro q
     have:(kids d).count x=0:=List.count_eq_zero.2 fun l=>(k x l).2 q
     have:=(h.dead x).1 q
     omega
    ·intro q;exact(h.dead x).2 (by omega)
  ·rw[j];have m:=h.pos x;split<;>omega
theorem aF{f:fZ}{d:Nd}(h:f.n b=some d):look f b=d:=by simp[look,h]
theorem iI(f:fZ)(b:Nat):(letGo f b).c.length=f.c.length:=by
 unfold letGo;split
 ·simp[freeB]
 ·simp[mW]
theorem bI(f:fZ)(L:Loc)(q:Nat):(setL f L q).c=f.c:=by cases L<;>rfl
theorem cV(f:fZ)(b:Nat):(letGo f b).n=if cu f b=1 then upd f.n b none else f.n:=by
 unfold letGo;split<;>rfl
theorem lY(f:fZ)(b:Nat):(letGo f b).m=f.m:=by unfold letGo;split<;>rfl
theorem yQ(f:fZ)(L:Loc)(q:Nat):(setL f L q).m=f.m:=by cases L<;>rfl
theorem dY(f:fZ)(b:Nat):(letGo f b).r=f.r:=by unfold letGo;split<;>rfl
theorem KB.letGo{f:fZ}(h:KB f)(b:Nat):KB (letGo f b):=by
 intro x d a;rw[iI];rw[cV]at a;split at a
 ·by_cases e:x=b
  ·subst e;rw[aE]at a;cases a
  ·rw[aC _ _ e]at a;exact h x d a
 ·exact h x d a
theorem Hts.letGo{f:fZ}(h:Hts f.n ht)(b:Nat):Hts (letGo f b).n ht:=by
 rw[cV];split
 ·exact h.gone b
 ·exact h
theorem KB.upd{nodes:Nat->Option Nd}{d:Nd}(h:∀x e,nodes x=some e->kO n e)(hd:kO n d):∀x e,upd nodes b (some d) x=some e->kO n e:=by
 intro x e a;by_cases q:x=b
 ·subst q;rw[aE]at a;cases a;exact hd
 ·rw[aC _ _ q]at a;exact h x e a
theorem rC{l:List α}{v x:α}(h:x∈l.set i v):x=v\/x∈l:=by
 rcases List.mem_or_eq_of_mem_set h with q | q
 ·exact .inr q
 ·exact .inl q
theorem kO.setE{d:Nd}(h:kO n d)(h2:d.1=2)(i q:Nat)(f:q<n):kO n (setE d i q):=by
 rcases h with h | ⟨_,b,c⟩
 ·omega
 ·refine .inr ⟨h2,?_,?_⟩
  ·simp[Fo.setE,b]
  ·intro e a
   rcases rC a with rfl | a
   ·exact⟨by simp,by simpa [ch] using f⟩
   ·exact c e a
theorem uT{d:Nd}(h2:d.1=2)(h:c∈kids (setE d i q)):c=q\/c∈kids d:=by
 simp only[kids,setE,h2,if_true]at h |-;rw[aHV]at h;exact rC h
theorem gP{es:List E3}(a:i<es.length):ch (es.getD i e0)∈kids (2,es):=by
 simp only[kids,if_true,List.mem_map];refine⟨es.getD i e0,?_,rfl⟩;rw[gD,gE a];exact List.getElem_mem a
def shadowAt(f:fZ)(L:Loc)(q:Nat):fZ:=letGo (setL (takeAt f q (look f (bN f L))) L q) (bN f L)
theorem fP(f:fZ)(q:Nat)(d:Nd):(takeAt f q d).n=upd f.n q (some d):=rfl
theorem dW{f:fZ}(d:Nd)(a:q<f.c.length)(x:Nat):cu (takeAt f q d) x=if q=x then 1 else cu f x:=fL f q x 1 a
def cpN(f:fZ)(L:Loc)(q:Nat)(d:Nd):Nat->Option Nd:=match L with
 | .inl _=>upd f.n q (some d)
 | .inr (p,i)=>upd (upd f.n q (some d)) p (some (setE (look f p) i q))
def shN(f:fZ)(L:Loc)(q b:Nat)(d:Nd):Nat->Option Nd:=if cu f b=1 then upd (cpN f L q d) b none else cpN f L q d
theorem IC.shadow{f:fZ}(h:IC f){L:Loc}(M:dU f L)(s:bN f L=b){d:Nd}(hd:f.n b=some d)(i9:2<=q)(o:q<f.c.length)(hc:cu f q=0):
  IC (shadowAt f L q)/\(shadowAt f L q).n=shN f L q b d/\(shadowAt f L q).c.length=f.c.length/\(shadowAt f L q).m=f.m/\cu (shadowAt f L q) q=1:=by
 have n:f.n q=none:=(h.bb.dead q).2 hc;have w:b≠q:=fun e=>by rw[e,n]at hd;cases hd
 have v:=h.lt hd;have G:∀c∈kids d,c<f.c.length:=fun c=>h.bg hd;have D:q∉kids d:=h.ay n hd;obtain⟨ht,C⟩:=h.ht;have J:Hts (takeAt f q d).n (upd ht q (ht b)):=C.dead (fun y e X=>h.ay n X) (C b d hd) D;have R:∀x e,(takeAt f q d).n x=some e->kO f.c.length e:=KB.upd h.kb (h.kb b d hd);have B:Dom (takeAt f q d):=h.bb.takeAt o;have a:(takeAt f q d).c.length=f.c.length:=by simp[takeAt]
 have K:(takeAt f q d).n b=some d:=by rw[fP,aC _ _ w];exact hd
 have key:dU (takeAt f q d) L/\bN (takeAt f q d) L=b/\Dom (setL (takeAt f q d) L q)/\KB (setL (takeAt f q d) L q)/\Hts (setL (takeAt f q d) L q).n (upd ht q (ht b))/\RB (setL (takeAt f q d) L q)/\(setL (takeAt f q d) L q).n b=some d/\(∀c,(takeAt f q d).n c≠none->(setL (takeAt f q d) L q).n c≠none)/\(∀c,c<2->(setL (takeAt f q d) L q).n c=none)/\(setL (takeAt f q d) L q).n=cpN f L q d:=by
  cases L with
  | inl t=>
   refine⟨M,s,⟨B.dead,B.pos⟩,fun x e j=>by rw[bI,a];exact R x e j,J,?_,K,fun c hc=>hc,fun c hc=>?_,rfl⟩
   ·intro r l
    rw[bI,a];rcases rC l with rfl | l
    ·exact⟨by simp,by simpa using o⟩
    ·exact h.rb r l
   ·show upd f.n q (some d) c=none
    rw[aC _ _ (by omega)];exact h.two c hc
  | inr U=>
   obtain⟨p,i⟩:=U;obtain⟨W,es,k,N⟩:=M;have I:p≠q:=fun e=>by rw[e,n]at k;cases k
   have A:(takeAt f q d).n p=some (2,es):=by rw[fP,aC _ _ I];exact k
   have u:look (takeAt f q d) p=(2,es):=aF A;have z:look f p=(2,es):=aF k;have Q:b∈kids (2,es):=by
    rw[<-s];simp only[bN,z];exact gP N
   have uj:p≠b:=fun e=>h.ag k (e▸Q);refine⟨⟨by rw[a];exact W,es,A,N⟩,?_,?_,?_,?_,?_,?_,?_,?_,?_⟩
   ·simp only[bN,u];rw[<-s];simp only[bN,z]
   ·simp only[setL];exact B.setN A
   ·intro x e j
    simp only[setL,u]at j;have:(setL (takeAt f q d) (.ai p i) q).c.length=f.c.length:=by rw[bI,a]
    rw[this];exact KB.upd R ((h.kb p _ k).setE rfl i q o) x e j
   ·simp only[setL,u]
    refine J.same ?_;rw[aC _ _ I];rcases C p _ k with⟨q1,_⟩ | ⟨_,P⟩
    ·simp at q1
    ·refine .inr ⟨rfl,fun c hc=>?_⟩
     rcases uT rfl hc with rfl | hc
     ·rw[aE];exact P b Q
     ·rw[aC _ _ (fun(e:c=q)=>h.ay n k (e▸hc))];exact P c hc
   ·intro r l
    rw[bI,a];exact h.rb r l
   ·simp only[setL,setN];rw[aC _ _ (Ne.symm uj)];exact K
   ·intro c hc
    simp only[setL,setN];by_cases e:c=p
    ·subst e;rw[aE];simp
    ·rw[aC _ _ e];exact hc
   ·intro c hc
    simp only[setL,setN];have:=h.dr k;rw[aC _ _ (by omega),fP,aC _ _ (by omega)];exact h.two c hc
   ·simp only[setL,setN,u,cpN,z,fP]
 obtain⟨Y,Z,k3,k4,k5,k6,F,k8,O,E⟩:=key;have g:shadowAt f L q=letGo (setL (takeAt f q d) L q) b:=by unfold shadowAt;rw[s,aF hd]
 have m:(shadowAt f L q).c.length=f.c.length:=by rw[g,iI,bI,a]
 have nn:cu (setL (takeAt f q d) L q) b=cu f b:=by
  unfold cu;rw[bI];have:=dW d o b;unfold cu at this;rw[this,if_neg (Ne.symm w)]
 have H:cu (setL (takeAt f q d) L q) q=1:=by
  unfold cu;rw[bI];have:=dW d o q;unfold cu at this;rw[this,if_pos rfl]
 have T:(shadowAt f L q).n=shN f L q b d:=by
  rw[g,cV,nn,E];rfl
 have S:∀c∈kids d,(setL (takeAt f q d) L q).n c≠none:=fun c hc=>by
  refine k8 c ?_;obtain⟨d',V⟩:=h.af hd hc;rw[fP,aC _ _ (fun(e:c=q)=>D (e▸hc)),V];simp
 refine⟨⟨by rw[m];exact h.n8,by rw[m];exact h.al,?_,?_,?_,?_,?_,?_,⟨_,by rw[g];exact k5.letGo b⟩⟩,T,m,?_,?_⟩
 ·rw[m,g,lY,yQ];exact h.len
 ·intro x j
  rw[m]at j;rw[g,yV (by rw[bI,a];exact v) F (fun c hc=>by rw[bI,a];exact G c hc),wT Y Z,lZ o n hc,h.D0 x j];omega
 ·rw[g];exact k3.letGo (by rw[bI,a];exact v) F (fun c hc=>⟨by rw[bI,a];exact G c hc,S c hc⟩)
 ·intro x j
  rw[g,cV];split
  ·have:=h.dr hd
   rw[aC _ _ (by omega)];exact O x j
  ·exact O x j
 ·intro r l
  rw[m];rw[g,dY]at l;have:=k6 r l;rw[bI,a]at this;exact this
 ·rw[g];exact k4.letGo b
 ·rw[g,lY,yQ];rfl
 ·rw[g]
  by_cases e:cu (setL (takeAt f q d) L q) b=1
  ·unfold letGo;rw[if_pos e]
   show(List.set _ b 0).getD q 0=1
   rw[fL _ _ _ _ (by rw[bI,a];exact v),if_neg w];exact H
  ·rw[rR (by rw[bI,a];exact v) F (fun c hc=>by rw[bI,a];exact G c hc) e,if_neg w,H,List.count_eq_zero.2 D];rfl
structure IP(f:fZ)(ht:Nat->Nat):Prop where
 n8:8<=f.c.length
 al:f.c.length<=512
 len:f.m.length=f.c.length
 bb:Dom f
 two:∀b,b<2->f.n b=none
 rb:RB f
 kb:KB f
 ht:Hts f.n ht
theorem IC.ip{f:fZ}(h:IC f):∃ht,IP f ht:=by
 obtain⟨ht,a⟩:=h.ht;exact⟨ht,h.n8,h.al,h.len,h.bb,h.two,h.rb,h.kb,a⟩
theorem IP.ic{f:fZ}(h:IP f ht)(a:∀x,x<f.c.length->df f x=0):IC f:=
 ⟨h.n8,h.al,h.len,a,h.bb,h.two,h.rb,h.kb,ht,h.ht⟩
theorem IP.setN{f:fZ}(h:IP f ht){d d':Nd}(hd:f.n b=some d)(g:kO f.c.length d')(c:HtN ht (ht b) d'):IP (setN f b d') ht:=by
 refine⟨h.n8,h.al,h.len,h.bb.setN hd,fun x a=>?_,h.rb,KB.upd h.kb g,h.ht.same c⟩;have:x≠b:=fun e=>by have:=h.two x a;rw[e,hd]at this;cases this
 show upd f.n b (some d') x=none
 rw[aC _ _ this];exact h.two x a
theorem IP.takeAt{f:fZ}(h:IP f ht){d:Nd}(l:2<=q)(i:q<f.c.length)(g:kO f.c.length d)(c:HtN ht v d)(k:q∉kids d)(hn:∀y e,f.n y=some e->q∉kids e):IP (takeAt f q d) (upd ht q v):=by
 have a:(Fo.takeAt f q d).c.length=f.c.length:=by simp[Fo.takeAt]
 refine⟨by rw[a];exact h.n8,by rw[a];exact h.al,by rw[a];exact h.len,h.bb.takeAt i,fun x b=>?_,?_,?_,h.ht.dead hn c k⟩
 ·show upd f.n q (some d) x=none
  rw[aC _ _ (by omega)];exact h.two x b
 ·intro r j;rw[a];exact h.rb r j
 ·intro x e b;rw[a];exact KB.upd h.kb g x e b
theorem IP.bm{f:fZ}(h:IP f ht)(t:Nat)(b:q<f.c.length):IP (setL f (.root t) q) ht:=by
 refine⟨h.n8,h.al,h.len,⟨h.bb.dead,h.bb.pos⟩,h.two,?_,h.kb,h.ht⟩;intro r a;rcases rC a with rfl | a
 ·exact⟨by simp,by rw[bI];simpa using b⟩
 ·exact h.rb r a
theorem IP.freeB{f:fZ}(h:IP f ht)(g:b<f.c.length):IP (freeB f b) ht:=by
 have c:(Fo.freeB f b).c.length=f.c.length:=by simp[Fo.freeB]
 refine⟨by rw[c];exact h.n8,by rw[c];exact h.al,by rw[c];exact h.len,h.bb.freeB g,fun x d=>?_,?_,?_,h.ht.gone b⟩
 ·show upd f.n b none x=none
  by_cases e:x=b
  ·rw[e,aE]
  ·rw[aC _ _ e];exact h.two x d
 ·intro r i;rw[c];exact h.rb r i
 ·intro x e d
  rw[c];by_cases q:x=b
  ·subst q;have a:upd f.n x none x=some e:=d;rw[aE]at a;cases a
  ·have a:upd f.n b none x=some e:=d;rw[aC _ _ q]at a;exact h.kb x e a
theorem IP.letGo{f:fZ}(h:IP f ht){d:Nd}(j:b<f.c.length)(hd:f.n b=some d)(k:∀c∈kids d,c<f.c.length/\f.n c≠none):IP (letGo f b) ht:=by
 have a:=iI f b;refine⟨by rw[a];exact h.n8,by rw[a];exact h.al,by rw[a,lY];exact h.len,h.bb.letGo j hd k,fun x i=>?_,?_,KB.letGo h.kb b,h.ht.letGo b⟩
 ·rw[cV];split
  ·by_cases e:x=b
   ·rw[e,aE]
   ·rw[aC _ _ e];exact h.two x i
  ·exact h.two x i
 ·intro r g;rw[a];rw[dY]at g;exact h.rb r g
def insE(l:List α)(i:Nat)(e:α):List α:=l.take i++e :: l.drop i
def delE(l:List α)(i:Nat):List α:=l.take i++l.drop (i+1)
theorem gN(es:List E3):kids (2,es)=es.map ch:=by simp[kids]
theorem aJJ(k:Int)(es:List E3):kids (k,es)=if k=2 then es.map ch else []:=rfl
theorem oG(k:Int)(a b:List E3):kids (k,a++b)=kids (k,a)++kids (k,b):=by
 simp only[aJJ];split<;>simp
theorem sQ(k:Int)(a:List E3)(m:Nat)(x:Nat):((kids (k,a)).count x:Nat)=(kids (k,a.take m)).count x+(kids (k,a.drop m)).count x:=by
 rw[<-List.count_append,<-oG,List.take_append_drop]
theorem aBO(l:List Nat)(i q x:Nat):(insE l i q).count x=l.count x+one q x:=by
 unfold insE;rw[List.count_append,List.count_cons];have:l.count x=(l.take i).count x+(l.drop i).count x:=by rw[<-List.count_append,List.take_append_drop]
 simp only[beq_iff_eq,one];omega
theorem aFR(es:List E3)(i:Nat)(e:E3)(x:Nat):(kids (2,insE es i e)).count x=(kids (2,es)).count x+one (ch e) x:=by
 rw[gN,gN,<-aBO _ i];simp[insE,List.map_take,List.map_drop]
theorem fV(l:List Nat)(i x:Nat)(h:i<l.length):(delE l i).count x+one (l.getD i 0) x=l.count x:=by
 unfold delE;rw[List.count_append];have a:l.count x=(l.take i).count x+(l.drop i).count x:=by rw[<-List.count_append,List.take_append_drop]
 have b:l.drop i=l.getD i 0 :: l.drop (i+1):=by
  rw[gD,gE h];exact List.drop_eq_getElem_cons h
 rw[b,List.count_cons]at a;simp only[beq_iff_eq,one]at *;omega
theorem vO(es:List E3)(i x:Nat)(h:i<es.length):(kids (2,delE es i)).count x+one (ch (es.getD i e0)) x=(kids (2,es)).count x:=by
 have:=fV (es.map ch) i x (by simpa using h)
 rw[gL _ _ h]at this;rw[gN,gN,<-this];simp[delE,List.map_take,List.map_drop]
theorem zY{l:List α}{e x:α}(h:x∈insE l i e):x=e\/x∈l:=by
 simp only[insE,List.mem_append,List.mem_cons]at h;rcases h with h | h | h
 ·exact .inr (List.mem_of_mem_take h)
 ·exact .inl h
 ·exact .inr (List.mem_of_mem_drop h)
theorem oP{l:List α}{x:α}(h:x∈delE l i):x∈l:=by
 simp only[delE,List.mem_append]at h;rcases h with h | h
 ·exact List.mem_of_mem_take h
 ·exact List.mem_of_mem_drop h
theorem kO.sub{es es':List E3}(h:kO n (k,es))(f:∀e∈es',e∈es)(b:k=2->es'≠[]):kO n (k,es'):=by
 rcases h with h | ⟨a,g,c⟩
 ·exact .inl h
 ·exact .inr ⟨a,b a,fun e d=>c e (f e d)⟩
theorem cU{es:List E3}(h:c∈kids (k,es)):k=2/\∃e∈es,ch e=c:=by
 simp only[aJJ]at h;split at h
 ·rename_i a;exact⟨a,by simpa using h⟩
 ·simp at h
theorem aY{es:List E3}:c∈kids (2,es)↔∃e∈es,ch e=c:=by simp[gN]
theorem HtN.sub{es es':List E3}(h:HtN ht v (k,es))(i:∀e∈es',∃e'∈es,ch e=ch e'):HtN ht v (k,es'):=by
 rcases h with h | ⟨a,d⟩
 ·exact .inl h
 ·refine .inr ⟨a,fun c f=>?_⟩
  obtain⟨j,e,g,rfl⟩:=cU f;obtain⟨e',b,q⟩:=i e g;rw[q];refine d _ ?_;simp only at a;subst a;exact aY.2 ⟨e',b,rfl⟩
theorem IC.keys{f:fZ}(h:IC f){es es':List E3}(hd:f.n b=some (k,es))(a:kids (k,es')=kids (k,es))(n:k=2->∀e∈es',0<=e.2.2):IC (setN f b (k,es')):=by
 obtain⟨ht,g⟩:=h.ip;have d:=h.kb b _ hd;refine(g.setN hd ?_ ?_).ic ?_
 ·rcases d with d | ⟨i,j,s⟩
  ·exact .inl d
  ·simp only at i;subst i
   refine .inr ⟨rfl,?_,fun e l=>⟨n rfl e l,?_⟩⟩
   ·intro e;simp only at e j;subst e;simp[gN]at a;exact j (by simpa using a)
   ·exact(h.kb b _ hd).dx (by rw[<-a];exact aY.2 ⟨e,l,rfl⟩)
 ·rcases g.ht b _ hd with q | ⟨p,r⟩
  ·exact .inl q
  ·exact .inr ⟨p,fun c m=>r c (a▸m)⟩
 ·intro x o
  rw[gF (h.lt hd) hd,a,h.D0 x o];omega
theorem eR{es:List E3}(h:HtN ht v (2,es))(hc:c∈kids (2,es)):ht c+1=v:=by
 rcases h with⟨q,_⟩ | ⟨_,q⟩
 ·simp at q
 ·exact q c hc
theorem gI{es:List E3}:(∀e∈es.take m,∃e'∈es,ch e=ch e')/\(∀e∈es.drop m,∃e'∈es,ch e=ch e'):=
 ⟨fun e a=>⟨e,List.mem_of_mem_take a,rfl⟩,fun e a=>⟨e,List.mem_of_mem_drop a,rfl⟩⟩
theorem oZ{es:List E3}(h:m<es.length)(a:0<m):es.take m≠[]:=fun e=>by
 have:=congrArg List.length e;rw[List.length_take,List.length_nil]at this;omega
theorem nS{es:List E3}(h:m<es.length):es.drop m≠[]:=fun e=>by
 have:=congrArg List.length e;simp at this;omega
theorem lB{es es':List E3}(b:∀e∈es',e∈es)(h:c∈kids (k,es')):c∈kids (k,es):=by
 obtain⟨rfl,e,a,rfl⟩:=cU h;exact aY.2 ⟨e,b e a,rfl⟩
def splitF(f:fZ)(p:Nat)(pes:List E3)(at' c:Nat)(k:Int)(ces:List E3)(m q:Nat)(key:ByteArray):fZ:=
 setN (takeAt (setN f c (k,ces.take m)) q (k,ces.drop m)) p (2,insE pes (at'+1) (key,.empty,(q:Int)))
theorem IC.split{f:fZ}(h:IC f){at':Nat}{pes ces:List E3}(key:ByteArray)(b:f.n p=some (2,pes))(N:at'<pes.length)(hc:c=ch (pes.getD at' e0))(hd:f.n c=some (k,ces))(O:0<m)(C:m<ces.length)(P:2<=q)(r:q<f.c.length)(A:cu f q=0):
  IC (splitF f p pes at' c k ces m q key)/\(splitF f p pes at' c k ces m q key).n=upd (upd (upd f.n c (some (k,ces.take m))) q (some (k,ces.drop m))) p (some (2,insE pes (at'+1) (key,.empty,(q:Int)))):=by
 refine⟨?_,rfl⟩;obtain⟨ht,n⟩:=h.ip;have g:f.n q=none:=(h.bb.dead q).2 A;have eS:c∈kids (2,pes):=hc▸gP N;have S:p≠c:=fun e=>h.ag b (e▸eS);have D:q≠c:=fun e=>by rw[<-e,g]at hd;cases hd
 have u:q≠p:=fun e=>by rw[<-e,g]at b;cases b
 have t:=n.ht c _ hd;have H:=eR (n.ht p _ b) eS;have E:IP (setN f c (k,ces.take m)) ht:=n.setN hd ((h.kb c _ hd).sub (fun e a=>List.mem_of_mem_take a) fun _=>oZ C O) (t.sub gI.1);have F:=E.takeAt (q:=q) (v:=ht c) (d:=(k,ces.drop m)) P r ((h.kb c _ hd).sub (fun e a=>List.mem_of_mem_drop a) fun _=>nS C) (t.sub gI.2)
  (fun i=>h.ay g hd (lB (fun e a=>List.mem_of_mem_drop a) i))
  (fun y e B i=>by
   by_cases w:y=c
   ·subst w
    have l:upd f.n y (some (k,ces.take m)) y=some e:=B;rw[aE]at l;cases l;exact h.ay g hd (lB (fun e a=>List.mem_of_mem_take a) i)
   ·have l:upd f.n c (some (k,ces.take m)) y=some e:=B
    rw[aC _ _ w]at l;exact h.ay g l i)
 have s:(takeAt (setN f c (k,ces.take m)) q (k,ces.drop m)).n p=some (2,pes):=by
  show upd (upd f.n c (some (k,ces.take m))) q (some (k,ces.drop m)) p=_
  rw[aC _ _ (Ne.symm u),aC _ _ S];exact b
 have o:(takeAt (setN f c (k,ces.take m)) q (k,ces.drop m)).c.length=f.c.length:=by simp[takeAt,setN]
 have G:=F.setN (d':=(2,insE pes (at'+1) (key,.empty,(q:Int)))) s ?_ ?_
 ·refine G.ic fun x j=>?_
  have j:x<f.c.length:=by have:x <(takeAt (setN f c (k,ces.take m)) q (k,ces.drop m)).c.length:=j;rw[o]at this;exact this
  have I:=gF (d':=(k,ces.take m)) (h.lt hd) hd x;have J:=lZ (f:=setN f c (k,ces.take m)) (q:=q) (d:=(k,ces.drop m)) r (by show upd f.n c _ q=none;rw[aC _ _ D];exact g) A x;have K:=gF (d':=(2,insE pes (at'+1) (key,.empty,(q:Int)))) (by rw[o];exact h.lt b) s x;have T:=sQ k ces m x;have L:=aFR pes (at'+1) (key,.empty,(q:Int)) x;have M:ch (key,.empty,(q:Int))=q:=by simp[ch]
  rw[M]at L;have e0:=h.D0 x j;show df (setN _ p _) x=0
  rw[K,J,I];omega
 ·rw[o]
  rcases h.kb p _ b with Q | ⟨_,U,R⟩
  ·simp at Q
  ·refine .inr ⟨rfl,by simp[insE],fun e a=>?_⟩
   rcases zY a with rfl | a
   ·exact⟨by simp,by simpa [ch] using r⟩
   ·exact R e a
 ·rw[aC _ _ (Ne.symm u)]
  refine .inr ⟨rfl,fun x j=>?_⟩;obtain⟨e,a,rfl⟩:=aY.1 j;rcases zY a with rfl | a
  ·simp only[ch,Int.toNat_natCast];rw[aE];exact H
  ·have i:ch e∈kids (2,pes):=aY.2 ⟨e,a,rfl⟩
   rw[aC _ _ (fun(z:ch e=q)=>h.ay g b (z▸i))];exact eR (n.ht p _ b) i
def growF(f:fZ)(t r:Nat)(k:Int)(es:List E3)(m q top:Nat)(k0 k1:ByteArray):fZ:=
 setL (takeAt (takeAt (setN f r (k,es.take m)) q (k,es.drop m)) top (2,[(k0,.empty,(r:Int)),(k1,.empty,(q:Int))])) (.root t) top
theorem IC.grow{f:fZ}(h:IC f){r top:Nat}{es:List E3}(l n:ByteArray)(fu:t<f.r.length)(hr:(f.r.getD t (0,0)).2.toNat=r)(hd:f.n r=some (k,es))(hm:0<m)(P:m<es.length)
  (i9:2<=q) (w:q<f.c.length) (M:cu f q=0) (R:2<=top) (B:top<f.c.length) (Q:cu f top=0) (E:top≠q):
  IC (growF f t r k es m q top l n)/\(growF f t r k es m q top l n).n=upd (upd (upd f.n r (some (k,es.take m))) q (some (k,es.drop m))) top (some (2,[(l,.empty,(r:Int)),(n,.empty,(q:Int))])):=by
 refine⟨?_,rfl⟩;obtain⟨ht,K⟩:=h.ip;have u:f.n q=none:=(h.bb.dead q).2 M;have s:f.n top=none:=(h.bb.dead top).2 Q;have I:q≠r:=fun e=>by rw[<-e,u]at hd;cases hd
 have J:top≠r:=fun e=>by rw[<-e,s]at hd;cases hd
 have G:=h.lt hd;have H:=K.ht r _ hd;have S:IP (setN f r (k,es.take m)) ht:=K.setN hd ((h.kb r _ hd).sub (fun e a=>List.mem_of_mem_take a) fun _=>oZ P hm) (H.sub gI.1);have g:∀z,f.n z=none->∀y e,(setN f r (k,es.take m)).n y=some e->z∉kids e:=fun z O y e p j=>by
   by_cases o:y=r
   ·subst o
    have i:upd f.n y (some (k,es.take m)) y=some e:=p;rw[aE]at i;cases i;exact h.ay O hd (lB (fun e a=>List.mem_of_mem_take a) j)
   ·have i:upd f.n r (some (k,es.take m)) y=some e:=p
    rw[aC _ _ o]at i;exact h.ay O i j
 have T:=S.takeAt (q:=q) (v:=ht r) (d:=(k,es.drop m)) i9 w ((h.kb r _ hd).sub (fun e a=>List.mem_of_mem_drop a) fun _=>nS P) (H.sub gI.2)
  (fun j=>h.ay u hd (lB (fun e a=>List.mem_of_mem_drop a) j)) (g q u)
 have A:(takeAt (setN f r (k,es.take m)) q (k,es.drop m)).c.length=f.c.length:=by simp[takeAt,setN]
 have C:kids (2,[(l,.empty,(r:Int)),(n,.empty,(q:Int))])=[r,q]:=by simp[gN,ch]
 have U:=T.takeAt (q:=top) (v:=ht r+1) (d:=(2,[(l,.empty,(r:Int)),(n,.empty,(q:Int))])) R (by rw[A];exact B)
  (.inr ⟨rfl,by simp,fun e a=>by
   rw[A];simp only[List.mem_cons,List.not_mem_nil,or_false]at a;rcases a with rfl | rfl
   ·exact⟨by simp,by simpa [ch] using G⟩
   ·exact⟨by simp,by simpa [ch] using w⟩⟩)
  (.inr ⟨rfl,fun c D=>by
   rw[C]at D;simp only[List.mem_cons,List.not_mem_nil,or_false]at D;rcases D with rfl | rfl
   ·rw[aC _ _ (Ne.symm I)]
   ·rw[aE]⟩)
  (fun j=>by rw[C]at j;simp[J,E]at j)
  (fun y e p j=>by
   by_cases o:y=q
   ·subst o
    have i:upd (setN f r (k,es.take m)).n y (some (k,es.drop m)) y=some e:=p;rw[aE]at i;cases i;exact h.ay s hd (lB (fun e a=>List.mem_of_mem_drop a) j)
   ·have i:upd (setN f r (k,es.take m)).n q (some (k,es.drop m)) y=some e:=p
    rw[aC _ _ o]at i;exact g top s y e i j)
 have F:(takeAt (takeAt (setN f r (k,es.take m)) q (k,es.drop m)) top (2,[(l,.empty,(r:Int)),(n,.empty,(q:Int))])).c.length=f.c.length:=by simp[takeAt,setN]
 refine(U.bm t (q:=top) (by rw[F];exact B)).ic fun x N=>?_;rw[bI,F]at N;have V:=gF (d':=(k,es.take m)) G hd x;have W:=lZ (f:=setN f r (k,es.take m)) (q:=q) (d:=(k,es.drop m)) w (by show upd f.n r _ q=none;rw[aC _ _ I];exact u) M x;have X:=lZ (f:=takeAt (setN f r (k,es.take m)) q (k,es.drop m)) (q:=top) (d:=(2,[(l,.empty,(r:Int)),(n,.empty,(q:Int))])) (by rw[A];exact B)
  (by show upd (upd f.n r _) q _ top=none;rw[aC _ _ E,aC _ _ J];exact s)
  (by rw[dW _ (by exact w),if_neg (Ne.symm E)];exact Q) x
 have Y:=wT (f:=takeAt (takeAt (setN f r (k,es.take m)) q (k,es.drop m)) top (2,[(l,.empty,(r:Int)),(n,.empty,(q:Int))])) (L:=.root t) (b:=r) fu hr top x;have e5:=sQ k es m x;have Z:(kids (2,[(l,.empty,(r:Int)),(n,.empty,(q:Int))])).count x=one r x+one q x:=by
  rw[C];simp only[List.count_cons,List.count_nil,beq_iff_eq,one];omega
 have e0:=h.D0 x N;rw[Y,X,W,V,Z];omega
def moveF(f:fZ)(p c s:Nat)(k:Int)(ces ses pes:List E3):fZ:=setN (setN (setN f c (k,ces)) s (k,ses)) p (2,pes)
theorem IC.move{f:fZ}(h:IC f){pes pes' ces ces' ses ses':List E3}(b:f.n p=some (2,pes))(hc:c∈kids (2,pes))(A:s∈kids (2,pes))(R:c≠s)(m:f.n c=some (k,ces))(o:f.n s=some (k,ses))
  (l:kids (2,pes')=kids (2,pes)) (H:∀e∈pes',0<=e.2.2) (N:∀x,(kids (k,ces')).count x+(kids (k,ses')).count x=(kids (k,ces)).count x+(kids (k,ses)).count x)
  (C:∀e,e∈ces'\/e∈ses'->e∈ces\/e∈ses) (z:ces'≠[]/\ses'≠[]):
  IC (moveF f p c s k ces' ses' pes')/\(moveF f p c s k ces' ses' pes').n=upd (upd (upd f.n c (some (k,ces'))) s (some (k,ses'))) p (some (2,pes')):=by
 refine⟨?_,rfl⟩;obtain⟨ht,j⟩:=h.ip;have U:p≠c:=fun e=>h.ag b (e▸hc);have G:p≠s:=fun e=>h.ag b (e▸A);have B:ht c=ht s:=by have:=eR (j.ht p _ b) hc;have:=eR (j.ht p _ b) A;omega
 have good:∀es',es'≠[]->(∀e∈es',e∈ces\/e∈ses)->kO f.c.length (k,es')/\HtN ht (ht c) (k,es'):=fun es' K u=>by
  have g:=h.kb c _ m;have r:=h.kb s _ o;have i:=j.ht c _ m;have n:=j.ht s _ o;rw[<-B]at n;constructor
  ·rcases g with g | ⟨g,_,I⟩
   ·exact .inl g
   ·rcases r with r | ⟨_,_,J⟩
    ·simp only at g r;omega
    ·refine .inr ⟨g,K,fun e a=>?_⟩
     rcases u e a with q | q
     ·exact I e q
     ·exact J e q
  ·rcases i with i | ⟨i,L⟩
   ·exact .inl i
   ·rcases n with⟨n,_⟩ | ⟨_,M⟩
    ·simp only at i n;omega
    ·refine .inr ⟨i,fun x d=>?_⟩
     obtain⟨rfl,e,a,rfl⟩:=cU d;rcases u e a with q | q
     ·exact L _ (aY.2 ⟨e,q,rfl⟩)
     ·exact M _ (aY.2 ⟨e,q,rfl⟩)
 have w:=good ces' z.1 fun e a=>C e (.inl a);have y:=good ses' z.2 fun e a=>C e (.inr a);have D:=j.setN (d':=(k,ces')) m w.1 w.2;have v:(setN f c (k,ces')).n s=some (k,ses):=by show upd f.n c _ s=_;rw[aC _ _ (Ne.symm R)];exact o
 have E:=D.setN (d':=(k,ses')) v y.1 (B▸y.2);have t:(setN (setN f c (k,ces')) s (k,ses')).n p=some (2,pes):=by
  show upd (upd f.n c _) s _ p=_
  rw[aC _ _ G,aC _ _ U];exact b
 have F:=E.setN (d':=(2,pes')) t ?_ ?_
 ·refine F.ic fun x d=>?_
  have d:x<f.c.length:=d;have O:=gF (d':=(k,ces')) (h.lt m) m x;have P:=gF (f:=setN f c (k,ces')) (d':=(k,ses')) (h.lt o) v x;have Q:=gF (f:=setN (setN f c (k,ces')) s (k,ses')) (d':=(2,pes')) (h.lt b) t x;have V:=N x;have e0:=h.D0 x d;show df (setN _ p _) x=0
  rw[Q,P,O,l];omega
 ·rcases h.kb p _ b with S | ⟨_,T,W⟩
  ·simp at S
  ·refine .inr ⟨rfl,?_,fun e a=>⟨H e a,?_⟩⟩
   ·intro e;simp only at e;subst e;simp[gN]at l;exact T (by simpa using l)
   ·exact(h.kb p _ b).dx (by rw[<-l];exact aY.2 ⟨e,a,rfl⟩)
 ·exact .inr ⟨rfl,fun x d=>eR (j.ht p _ b) (l▸d)⟩
def mergeF(f:fZ)(p c s:Nat)(k:Int)(ces pes:List E3):fZ:=letGo (setN (setN f c (k,ces)) p (2,pes)) s
theorem IC.merge{f:fZ}(h:IC f){pes pes' ces ces' ses:List E3}(d:f.n p=some (2,pes))(hc:c∈kids (2,pes))(z:s∈kids (2,pes))(O:c≠s)(n:f.n c=some (k,ces))(g:f.n s=some (k,ses))
  (y:∀x,(kids (2,pes')).count x+one s x=(kids (2,pes)).count x) (H:∀e∈pes',0<=e.2.2) (F:pes'≠[]) (M:∀x,(kids (k,ces')).count x=(kids (k,ces)).count x+(kids (k,ses)).count x)
  (A:∀e,e∈ces'->e∈ces\/e∈ses) (Q:ces'≠[]):
  IC (mergeF f p c s k ces' pes')/\(mergeF f p c s k ces' pes').n=(if cu f s=1 then upd (upd (upd f.n c (some (k,ces'))) p (some (2,pes'))) s none else upd (upd f.n c (some (k,ces'))) p (some (2,pes'))):=by
 have R:(mergeF f p c s k ces' pes').n=(if cu f s=1 then upd (upd (upd f.n c (some (k,ces'))) p (some (2,pes'))) s none else upd (upd f.n c (some (k,ces'))) p (some (2,pes'))):=by
  unfold mergeF;rw[cV];rfl
 refine⟨?_,R⟩;obtain⟨ht,l⟩:=h.ip;have V:p≠c:=fun e=>h.ag d (e▸hc);have G:p≠s:=fun e=>h.ag d (e▸z);have S:ht c=ht s:=by have:=eR (l.ht p _ d) hc;have:=eR (l.ht p _ d) z;omega
 have C:∀x∈kids (2,pes'),x∈kids (2,pes):=fun x a=>by
  have:=y x;have:=List.count_pos_iff.2 a;exact List.count_pos_iff.1 (by omega)
 have good:kO f.c.length (k,ces')/\HtN ht (ht c) (k,ces'):=by
  have i:=h.kb c _ n;have u:=h.kb s _ g;have j:=l.ht c _ n;have o:=l.ht s _ g;rw[<-S]at o;constructor
  ·rcases i with i | ⟨i,_,I⟩
   ·exact .inl i
   ·rcases u with u | ⟨_,_,J⟩
    ·simp only at i u;omega
    ·refine .inr ⟨i,Q,fun e m=>?_⟩
     rcases A e m with q | q
     ·exact I e q
     ·exact J e q
  ·rcases j with j | ⟨j,K⟩
   ·exact .inl j
   ·rcases o with⟨o,_⟩ | ⟨_,L⟩
    ·simp only at j o;omega
    ·refine .inr ⟨j,fun x a=>?_⟩
     obtain⟨rfl,e,m,rfl⟩:=cU a;rcases A e m with q | q
     ·exact K _ (aY.2 ⟨e,q,rfl⟩)
     ·exact L _ (aY.2 ⟨e,q,rfl⟩)
 have D:=l.setN (d':=(k,ces')) n good.1 good.2;have w:(setN f c (k,ces')).n p=some (2,pes):=by show upd f.n c _ p=_;rw[aC _ _ V];exact d
 have E:=D.setN (d':=(2,pes')) w ?_ (.inr ⟨rfl,fun x a=>eR (l.ht p _ d) (C x a)⟩)
 ·have B:(setN (setN f c (k,ces')) p (2,pes')).n s=some (k,ses):=by
   show upd (upd f.n c _) p _ s=_
   rw[aC _ _ (Ne.symm G),aC _ _ (Ne.symm O)];exact g
  have v:∀x∈kids (k,ses),x<f.c.length:=fun x=>h.bg g;have T:∀x∈kids (k,ses),(setN (setN f c (k,ces')) p (2,pes')).n x≠none:=fun x a=>by
   obtain⟨d',P⟩:=h.af g a;show upd (upd f.n c _) p _ x≠none
   by_cases r:x=p
   ·rw[r,aE];simp
   ·rw[aC _ _ r]
    by_cases t:x=c
    ·rw[t,aE];simp
    ·rw[aC _ _ t,P];simp
  refine(E.letGo (b:=s) (h.lt g) B fun x a=>⟨v x a,T x a⟩).ic fun x a=>?_;rw[iI]at a;have a:x<f.c.length:=a;have r:=gF (d':=(k,ces')) (h.lt n) n x;have t:=gF (f:=setN f c (k,ces')) (d':=(2,pes')) (h.lt d) w x;have N:=yV (f:=setN (setN f c (k,ces')) p (2,pes')) (b:=s) (h.lt g) B v x;have W:=M x;have X:=y x;have e0:=h.D0 x a;rw[N,t,r];omega
 ·rcases h.kb p _ d with U | ⟨_,Y,Z⟩
  ·simp at U
  ·exact .inr ⟨rfl,F,fun e m=>⟨H e m,(h.kb p _ d).dx (C _ (aY.2 ⟨e,m,rfl⟩))⟩⟩
def fallF(f:fZ)(t r c:Nat):fZ:=setL (freeB f r) (.root t) c
theorem IC.cn{f:fZ}(h:IC f){r:Nat}{e:E3}(m:t<f.r.length)(hr:(f.r.getD t (0,0)).2.toNat=r)(hd:f.n r=some (2,[e]))(h1:cu f r=1):
  IC (fallF f t r (ch e))/\(fallF f t r (ch e)).n=upd f.n r none:=by
 refine⟨?_,rfl⟩;obtain⟨ht,n⟩:=h.ip;have a:kids (2,[e])=[ch e]:=by simp[gN]
 have g:ch e<f.c.length:=h.bg hd (by rw[a];simp);have i:=n.freeB (h.lt hd);have c:(freeB f r).c.length=f.c.length:=by simp[freeB]
 refine(i.bm t (q:=ch e) (by rw[c];exact g)).ic fun x d=>?_;rw[bI,c]at d;have j:=rX (h.lt hd) hd h1 x;have k:=wT (f:=freeB f r) (L:=.root t) (b:=r) m hr (ch e) x;have l:(kids (2,[e])).count x=one (ch e) x:=by
  rw[a];simp only[List.count_cons,List.count_nil,beq_iff_eq,one];omega
 have e0:=h.D0 x d;show df (setL _ _ _) x=0
 rw[k,j,l];omega
def kl(a b:ByteArray):Bool:=Op.bytesLess a.toList b.toList
theorem pF:∀l:List UInt8,Op.bytesLess l l=false
 | []=>rfl
 | a :: l=>by simp[Op.bytesLess,pF l,UInt8.lt_irrefl]
theorem aNC:∀l m k:List UInt8,Op.bytesLess l m=true->Op.bytesLess m k=true->Op.bytesLess l k=true
 | [],[],_,h,_=>by simp[Op.bytesLess]at h
 | [],b :: m,[],_,h=>by simp[Op.bytesLess]at h
 | [],b :: m,c :: k,_,_=>rfl
 | a :: l,[],_,h,_=>by simp[Op.bytesLess]at h
 | a :: l,b :: m,[],_,h=>by simp[Op.bytesLess]at h
 | a :: l,b :: m,c :: k,h,d=>by
  simp only[Op.bytesLess,Bool.or_eq_true,decide_eq_true_eq,Bool.and_eq_true,beq_iff_eq]at h d |-;rcases h with h | ⟨rfl,h⟩
  ·rcases d with d | ⟨rfl,d⟩
   ·exact .inl (UInt8.lt_trans h d)
   ·exact .inl h
  ·rcases d with d | ⟨rfl,d⟩
   ·exact .inl d
   ·exact .inr ⟨rfl,aNC l m k h d⟩
theorem aHS:∀l m:List UInt8,Op.bytesLess l m=false->l=m\/Op.bytesLess m l=true
 | [],[],_=>.inl rfl
 | [],b :: m,h=>by simp[Op.bytesLess]at h
 | a :: l,[],_=>.inr rfl
 | a :: l,b :: m,h=>by
  simp only[Op.bytesLess,Bool.or_eq_false_iff,decide_eq_false_iff_not,Bool.and_eq_false_iff,beq_eq_false_iff_ne]at h;obtain⟨c,d⟩:=h;by_cases e:a=b
  ·subst e
   rcases aHS l m (d.resolve_left (fun q=>q rfl))with q | q
   ·exact .inl (by rw[q])
   ·exact .inr (by simp[Op.bytesLess,q])
  ·refine .inr ?_
   have:=UInt8.lt_of_le_of_ne (UInt8.not_lt.1 c) (Ne.symm e)
   simp[Op.bytesLess,this]
theorem gV{b:ByteArray}(h:a.toList=b.toList):a=b:=by
 rw[ByteArray.toList_eq,ByteArray.toList_eq]at h;cases a;cases b;congr;exact Array.toList_inj.1 h
theorem eI(a:ByteArray):kl a a=false:=pF _
theorem kM{b c:ByteArray}(h:kl a b=true)(d:kl b c=true):kl a c=true:=aNC _ _ _ h d
theorem lF{b:ByteArray}(h:kl a b=false):a=b\/kl b a=true:=by
 rcases aHS _ _ h with q | q
 ·exact .inl (gV q)
 ·exact .inr q
theorem fN{b:ByteArray}(h:kl a b=true):kl b a=false:=by
 cases e:kl b a with
 | false=>rfl
 | true=>have:=kM h e;rw[eI]at this;cases this
theorem lD{b c:ByteArray}(h:kl b a=false)(d:kl b c=true):kl a c=true:=by
 rcases lF h with rfl | q
 ·exact d
 ·exact kM q d
theorem lE{b c:ByteArray}(h:kl a b=true)(d:kl c b=false):kl a c=true:=by
 rcases lF d with rfl | q
 ·exact h
 ·exact kM h q
theorem gO{b c:ByteArray}(h:kl b a=false)(d:kl c b=false):kl c a=false:=by
 cases e:kl c a with
 | false=>rfl
 | true=>have:=lE e h;rw[d]at this;cases this
def loR(lo:OB)(k:ByteArray):Prop:=match lo with
 | none=>True
 | some l=>kl k l=false
def hiR(hi:OB)(k:ByteArray):Prop:=match hi with
 | none=>True
 | some u=>kl k u=true
def ky(es:List E3)(i:Nat):ByteArray:=(es.getD i e0).1
def kd(es:List E3)(i:Nat):Nat:=ch (es.getD i e0)
def Srt(es:List E3):Prop:=∀i j,i<j->j<es.length->kl (ky es i) (ky es j)=true
def nxt(es:List E3)(i:Nat)(hi:OB):OB:=if i+1<es.length then some (ky es (i+1))else hi
structure eE(es:List E3)(lo hi:OB):Prop where
 a6:Srt es
 lo:∀i,i<es.length->loR lo (ky es i)
 hi:∀i,i<es.length->hiR hi (ky es i)
 bz:es.length<=5
def sz(nodes:Nat->Option Nd)(b:Nat):Nat:=match nodes b with
 | some d=>d.2.length
 | none=>0
def Ok(nodes:Nat->Option Nd):Nat->Nat->OB->OB->Prop
 | 0,b,lo,hi=>∃es,nodes b=some (1,es)/\eE es lo hi/\∀i,i<es.length->(es.getD i e0).2.2=0
 | h+1,b,lo,hi=>∃es,nodes b=some (2,es)/\eE es lo hi/\es≠[]/\(∀i,i<es.length->(es.getD i e0).2.1=ByteArray.empty)/\
   ∀i,i<es.length->2<=sz nodes (kd es i)/\Ok nodes h (kd es i) (some (ky es i)) (nxt es i hi)
theorem aR{es:List E3}(a:i<es.length):kd es i∈kids (2,es):=gP a
theorem Ok.frame{nodes nodes':Nat->Option Nd}{U:Nat->Prop}(j:∀x d,U x->nodes x=some d->∀c∈kids d,U c)(he:∀x,U x->nodes' x=nodes x):
  ∀h b lo hi,U b->Ok nodes h b lo hi->Ok nodes' h b lo hi
 | 0,b,lo,hi,e,h=>by
  obtain⟨es,a,f⟩:=h;exact⟨es,(he b e).trans a,f⟩
 | h+1,b,lo,hi,e,n=>by
  obtain⟨es,a,f,l,m,g⟩:=n;refine⟨es,(he b e).trans a,f,l,m,fun i hi'=>?_⟩;have k:U (kd es i):=j b _ e a _ (aR hi');refine⟨?_,Ok.frame j he h _ _ _ k (g i hi').2⟩;unfold sz;rw[he _ k];exact(g i hi').1
theorem Ok.ba{nodes:Nat->Option Nd}{h:Nat}{lo hi:OB}(k:Ok nodes h b lo hi):∃d,nodes b=some d/\(d.1=1\/d.1=2)/\d.2.length<=5/\Srt d.2/\(h=0↔d.1=1):=by
 cases h with
 | zero=>obtain⟨es,c,a,_⟩:=k;exact⟨_,c,.inl rfl,a.bz,a.a6,by simp⟩
 | succ h=>obtain⟨es,c,a,_⟩:=k;exact⟨_,c,.inr rfl,a.bz,a.a6,by simp⟩
theorem Ok.wide{nodes:Nat->Option Nd}:∀{h b:Nat} {lo hi lo' hi':OB},(∀k,loR lo k->loR lo' k)->(∀k,hiR hi k->hiR hi' k)->Ok nodes h b lo hi->Ok nodes h b lo' hi'
 | 0,b,lo,hi,lo',hi',f,c,k=>by
  obtain⟨es,d,a,e⟩:=k;exact⟨es,d,⟨a.a6,fun i q=>f _ (a.lo i q),fun i q=>c _ (a.hi i q),a.bz⟩,e⟩
 | h+1,b,lo,hi,lo',hi',f,c,k=>by
  obtain⟨es,d,a,e,j,g⟩:=k;refine⟨es,d,⟨a.a6,fun i q=>f _ (a.lo i q),fun i q=>c _ (a.hi i q),a.bz⟩,e,j,fun i hi'=>⟨(g i hi').1,?_⟩⟩;refine Ok.wide (fun _ q=>q) ?_ (g i hi').2;unfold nxt;split
  ·exact fun _ q=>q
  ·exact c
