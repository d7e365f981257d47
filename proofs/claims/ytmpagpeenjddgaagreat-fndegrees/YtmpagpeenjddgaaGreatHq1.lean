import Derived.Test.YtmpagpeenjddgaaGreatHp8
import Derived.Test.YtmpagpeenjddgaaGreatFr2
set_option maxHeartbeats 9999999
set_option maxRecDepth 99999
set_option linter.all false
namespace Go.Proofs.YtmpagpeenjddgaaGreat
open Go.RowKit Fo
def aW(t:Int×Int):List Value:=[iV t.1,iV t.2]
def cY(l:List (Int×Int)):Array Value:=(l.flatMap aW).toArray
theorem bY(l:List (Int×Int)):(l.flatMap aW).length=l.length*2:=by
 induction l with
 | nil=>rfl
 | cons e es ih=>simp only[List.flatMap_cons,lP,ih,List.length_cons];simp[aW];omega
theorem lK(l:List (Int×Int)){i:Nat}(b:i<l.length):(cY l)[i*2]?=some (iV (l.getD i (0,0)).1)/\(cY l)[i*2+1]?=some (iV (l.getD i (0,0)).2):=by
 unfold cY;rw[List.getElem?_toArray,List.getElem?_toArray];induction l generalizing i with
 | nil=>simp at b
 | cons e es ih=>
  cases i with
  | zero=>simp[aW]
  | succ i=>
   have:=ih (i:=i) (by simpa using b)
   have c:(e :: es).flatMap aW=aW e++es.flatMap aW:=List.flatMap_cons;have a:(aW e).length=2:=rfl;rw[c];rw[List.getElem?_append_right (by rw[a];omega),List.getElem?_append_right (by rw[a];omega),a];rw[show(i+1)*2-2=i*2 by omega,show(i+1)*2+1-2=i*2+1 by omega];simpa using this
def cK(b:Nat):Nat:=10+4*b
def cI(b:Nat):Nat:=11+4*b
def jZ(i:Nat):Nat:=12+4*i
def kC(i:Nat):Nat:=13+4*i
def isJ(r:Nat):Prop:=r=6\/(12<=r/\r % 4<2)
def isN(r:Nat):Prop:=r≠0/\¬isJ r
structure Adr where
 ra:Nat
 rj:List (Int×Int)
 m:Nat
 c:Nat
 d:Nat
 dj:List Value
 tv:Value
 φ:Nat->Option Nat
 α:Nat->Option Nat
def jG(c:List Int)(dj:List Value):Array Value:=(c.map (Value.int .i64)++dj).toArray
def dH(A:Adr)(f:fZ)(jv:Value):Array Value:=#[sL A.ra 0 f.r.length (f.r.length+A.rj.length),iV f.next,iV f.gen,.map (some A.m),sL A.c 0 f.c.length f.c.length,sL A.d 0 f.m.length (f.m.length+A.dj.length),A.tv,jv]
def Nod(w:World)(ρ:Nat->Nat)(A:Adr)(b:Nat)(d:Nd):Prop:=
 ∃q,A.φ b=some q/\ρ q=cK b/\(∀g,A.α b=some g->ρ g=cI b)/\∃junk,aN w q d (A.α b) junk
structure Rp(w:World)(ρ:Nat->Nat)(P:Nat)(A:Adr)(f:fZ)(jv:Value):Prop where
 own:∀k,ρ k≠0->k<w.heap.size
 hP:IsC w P (dH A f jv) 67
 rP:ρ P=1
 hr:IsC w A.ra (cY (f.r++A.rj)) 92
 rr:ρ A.ra=2
 hm:dV w A.m A.φ
 rm:ρ A.m=3
 hc:IsC w A.c (dA f.c) 2
 rc:ρ A.c=4
 hd:IsC w A.d (jG f.m A.dj) 2
 rd:ρ A.d=5
 nd:∀b d,f.n b=some d->Nod w ρ A b d
 no:∀b,f.n b=none->A.φ b=none
 rs:f.r.length+A.rj.length<=maxLen
 ds:f.m.length+A.dj.length<=maxLen
structure Kp(S:Nat->Prop)(w:World)(ρ:Nat->Nat)(w':World)(ρ':Nat->Nat):Prop where
 ae:Frm S w w'
 bu:∀x,x<w.heap.size->isN (ρ x)->ρ' x=ρ x
 own:∀x,ρ' x≠0->x<w'.heap.size
theorem vL:isN 1:=by unfold isN isJ;omega
theorem aDY:isN 2:=by unfold isN isJ;omega
theorem vM:isN 3:=by unfold isN isJ;omega
theorem aDZ:isN 4:=by unfold isN isJ;omega
theorem aJB:isN 5:=by unfold isN isJ;omega
theorem wY(b:Nat):isN (cK b):=by unfold isN isJ cK;omega
theorem wZ(b:Nat):isN (cI b):=by unfold isN isJ cI;omega
theorem aJA:isJ 6:=by unfold isJ;omega
theorem rA(i:Nat):isJ (jZ i):=by unfold isJ jZ;omega
theorem rB(i:Nat):isJ (kC i):=by unfold isJ kC;omega
variable {w w' : World} {ρ ρ' : Nat -> Nat} {P : Nat} {A : Adr} {f : fZ} {jv : Value} {S : Nat -> Prop}
theorem Nod.kp(k:Kp S w ρ w' ρ'){b:Nat}{d:Nd}(h:Nod w ρ A b d)(i:∀x,ρ x=cK b\/ρ x=cI b->¬S x)(m:∀x,ρ x≠0->x<w.heap.size):Nod w' ρ' A b d:=by
 obtain⟨q,l,a,c,j,f⟩:=h;have n:q<w.heap.size:=f.box.lt;refine⟨q,l,by rw[k.bu q n (a▸wY b),a],fun g e=>?_,j,f.ae k.ae (i q (.inl a)) fun g e=>i g (.inr (c g e))⟩;have:=c g e;rw[k.bu g (m g (by rw[this];unfold cI;omega)) (this▸wZ b),this]
theorem Rp.gen(h:Rp w ρ P A f jv)(k:Kp S w ρ w' ρ'){A':Adr}{f':fZ}{jv':Value}
  (o:(¬S P/\dH A' f' jv'=dH A f jv)\/IsC w' P (dH A' f' jv') 67)
  (hr:(¬S A.ra/\A'.ra=A.ra/\f'.r++A'.rj=f.r++A.rj)\/(IsC w' A'.ra (cY (f'.r++A'.rj)) 92/\ρ' A'.ra=2))
  (q:(¬S A.m/\A'.φ=A.φ)\/dV w' A.m A'.φ) (l:A'.m=A.m)
  (hc:(¬S A.c/\f'.c=f.c)\/IsC w' A.c (dA f'.c) 2) (j:A'.c=A.c)
  (hd:(¬S A.d/\A'.d=A.d/\jG f'.m A'.dj=jG f.m A.dj)\/(IsC w' A'.d (jG f'.m A'.dj) 2/\ρ' A'.d=5))
  (s:∀b d,f'.n b=some d->(f.n b=some d/\A'.φ b=A.φ b/\A'.α b=A.α b/\∀x,ρ x=cK b\/ρ x=cI b->¬S x)\/Nod w' ρ' A' b d)
  (t:∀b,f'.n b=none->A'.φ b=none) (rs:f'.r.length+A'.rj.length<=maxLen) (m:f'.m.length+A'.dj.length<=maxLen):Rp w' ρ' P A' f' jv':=by
 have g:∀{x r},ρ x=r->isN r->ρ' x=r:=fun {x r} e hr=>by
  rw[k.bu x (h.own x (by rw[e];exact hr.1)) (e▸hr),e]
 have u:=h.own;refine⟨k.own,?_,g h.rP vL,?_,?_,?_,by rw[l];exact g h.rm vM,?_,by rw[j];exact g h.rc aDZ,?_,?_,?_,t,rs,m⟩
 ·rcases o with⟨a,c⟩ | a
  ·rw[c];exact h.hP.ae k.ae a
  ·exact a
 ·rcases hr with⟨a,c,i⟩ | a
  ·rw[c,i];exact h.hr.ae k.ae a
  ·exact a.1
 ·rcases hr with⟨a,c,i⟩ | a
  ·rw[c];exact g h.rr aDY
  ·exact a.2
 ·rcases q with⟨a,c⟩ | a
  ·rw[l,c];exact h.hm.of (k.ae.block _ h.hm.lt a)
  ·rw[l];exact a
 ·rcases hc with⟨a,c⟩ | a
  ·rw[j,c];exact h.hc.ae k.ae a
  ·rw[j];exact a
 ·rcases hd with⟨a,c,i⟩ | a
  ·rw[c,i];exact h.hd.ae k.ae a
  ·exact a.1
 ·rcases hd with⟨a,c,i⟩ | a
  ·rw[c];exact g h.rd aJB
  ·exact a.2
 ·intro b d p
  rcases s b d p with⟨a,c,i,n⟩ | a
  ·have:=(h.nd b d a).kp k n u
   unfold Nod at *;rw[c,i];exact this
  ·exact a
theorem Rp.ae(h:Rp w ρ P A f jv)(k:Kp S w ρ w' ρ')(g:∀x,x<w.heap.size->S x->¬isN (ρ x)):Rp w' ρ' P A f jv:=by
 have a:∀{x r},ρ x=r->isN r->¬S x:=fun {x r} e c j=>g x (h.own x (by rw[e];exact c.1)) j (e▸c);refine h.gen k (.inl ⟨a h.rP vL,rfl⟩) (.inl ⟨a h.rr aDY,rfl,rfl⟩) (.inl ⟨a h.rm vM,rfl⟩) rfl (.inl ⟨a h.rc aDZ,rfl⟩) rfl (.inl ⟨a h.rd aJB,rfl,rfl⟩) (fun b d i=>.inl ⟨i,rfl,rfl,fun x l=>?_⟩) h.no h.rs h.ds;rcases l with e | e
 ·exact a e (wY b)
 ·exact a e (wZ b)
structure JrL(w:World)(ρ:Nat->Nat)(ja:Option Nat)(jp jj:List JE)(J:List aS):Prop where
 arr:∀g,ja=some g->IsC w g (iY (jp++jj)) 178/\ρ g=6
 nil:ja=none->jp=[]/\jj=[]
 small:jp.length+jj.length<=maxLen
 len:jp.length=J.length
 row:∀i,i<J.length->(jp.getD i j0).1=((J.getD i jr0).1:Int)/\(jp.getD i j0).2.1=(J.getD i jr0).2.1/\
  (match (J.getD i jr0).2.2 with
  | none=>(jp.getD i j0).2.2=none
  | some d=>∃q a junk,(jp.getD i j0).2.2=some q/\ρ q=jZ i/\(∀g,a=some g->ρ g=kC i)/\aN w q d a junk)
theorem JrL.start(w:World)(ρ:Nat->Nat):JrL w ρ none [] [] []:=⟨fun g e=>(by cases e),fun _=>⟨rfl,rfl⟩,by simp[maxLen],rfl,fun i a=>(by simp at a)⟩
theorem JrL.ae{ja:Option Nat}{jp jj:List JE}{J:List aS}(h:JrL w ρ ja jp jj J)(k:Frm S w w')(u:∀x,ρ x≠0->x<w.heap.size)(s:∀x,S x->¬isJ (ρ x))(y:∀x,x<w.heap.size->isJ (ρ x)->ρ' x=ρ x):JrL w' ρ' ja jp jj J:=by
 have n:∀{x r},ρ x=r->isJ r->¬S x:=fun {x r} e l v=>s x v (e▸l);have b:∀{x r},ρ x=r->isJ r->ρ' x=r:=fun {x r} e l=>by
  rw[y x (u x (by rw[e];intro q;subst q;unfold isJ at l;omega)) (e▸l),e]
 refine⟨fun g e=>?_,h.nil,h.small,h.len,fun i t=>?_⟩
 ·obtain⟨m,f⟩:=h.arr g e
  exact⟨m.ae k (n f aJA),b f aJA⟩
 ·obtain⟨m,f,j⟩:=h.row i t
  refine⟨m,f,?_⟩;cases e:(J.getD i jr0).2.2 with
  | none=>rw[e]at j;exact j
  | some d=>
   rw[e]at j;obtain⟨q,a,c,z,o,p,A⟩:=j;exact⟨q,a,c,z,b o (rA i),fun g e=>b (p g e) (rB i),A.ae k (n o (rA i)) fun g e=>n (p g e) (rB i)⟩
def Jr(w:World)(ρ:Nat->Nat)(ja:Option Nat)(jp jj:List JE)(J:List aS):Prop:=J.length<=900001->JrL w ρ ja jp jj J
theorem Jr.ae{ja:Option Nat}{jp jj:List JE}{J:List aS}(h:Jr w ρ ja jp jj J)(k:Frm S w w')(c:∀x,ρ x≠0->x<w.heap.size)(a:∀x,S x->¬isJ (ρ x))(d:∀x,x<w.heap.size->isJ (ρ x)->ρ' x=ρ x):Jr w' ρ' ja jp jj J:=fun b=>(h b).ae k c a d
def fT:List aS:=List.replicate 1000000 jr0
theorem vF:¬fT.length<=900001:=by unfold fT;rw[List.length_replicate];omega
def aJC(ja:Option Nat)(jp jj:List JE):Value:=.slice (adr ja) jp.length (jp.length+jj.length)
def St(w:World)(ρ:Nat->Nat)(P:Nat)(A:Adr)(f:fZ)(J:List aS):Prop:=
 ∃ja jp jj,Rp w ρ P A f (aJC ja jp jj)/\Jr w ρ ja jp jj J
structure Mv(X:Nat->Prop)(w:World)(ρ:Nat->Nat)(w':World)(ρ':Nat->Nat):Prop where
 ae:Frm (fun k=>ρ k≠0\/X k) w w'
 bu:∀x,x<w.heap.size->¬X x->ρ' x=ρ x
theorem Mv.refl(X:Nat->Prop)(w:World)(ρ:Nat->Nat):Mv X w ρ w ρ:=⟨Frm.refl _ _,fun _ _ _=>rfl⟩
theorem Mv.trans{X:Nat->Prop}{w1 w2 w3:World}{ρ1 ρ2 ρ3:Nat->Nat}(a:Mv X w1 ρ1 w2 ρ2){Y:Nat->Prop}(b:Mv Y w2 ρ2 w3 ρ3)(d:∀x,x<w1.heap.size->Y x->X x):Mv X w1 ρ1 w3 ρ3:=by
 refine⟨a.ae.next b.ae fun x c h=>?_,fun x c f=>?_⟩
 ·by_cases e:X x
  ·exact .inr e
  ·rcases h with h | h
   ·left;rw[<-a.bu x c e];exact h
   ·exact .inr (d x c h)
 ·rw[b.bu x (lL c a.ae.size) (fun q=>f (d x c q)),a.bu x c f]
theorem Mv.up{X Y:Nat->Prop}(a:Mv X w ρ w' ρ')(h:∀x,x<w.heap.size->X x->Y x):Mv Y w ρ w' ρ':=
 ⟨a.ae.wide fun k d c=>c.imp id (h k d),fun x b e=>a.bu x b fun q=>e (h x b q)⟩
end Go.Proofs.YtmpagpeenjddgaaGreat
namespace Go.Proofs.YtmpagpeenjddgaaGreat
open Go.RowKit Fo
theorem aFP(zs:List Int)(i:Nat)(v:Int):(dA zs).setIfInBounds i (iV v)=dA (zs.set i v):=by
 simp[dA,List.map_set]
variable {w w' : World} {ρ ρ' : Nat -> Nat} {P : Nat} {A : Adr} {f : fZ} {J : List aS} {S : Nat -> Prop} {jv : Value}
theorem St.of{A':Adr}{f':fZ}(h:St w ρ P A f J)(k:Frm S w w')(d:∀x,S x->¬isJ (ρ x))(e:∀x,x<w.heap.size->isJ (ρ x)->ρ' x=ρ x)(c:∀jv,Rp w ρ P A f jv->Rp w' ρ' P A' f' jv):St w' ρ' P A' f' J:=by
 obtain⟨g,j,i,a,b⟩:=h;exact⟨g,j,i,c _ a,b.ae k a.own d e⟩
theorem aBX(b:Nat):¬isJ (cK b):=(wY b).2
theorem aBY(b:Nat):¬isJ (cI b):=(wZ b).2
theorem aDX:¬isJ 0:=by unfold isJ;omega
theorem Kp.same(h:Rp w ρ P A f jv)(k:Frm S w w'):Kp S w ρ w' ρ:=⟨k,fun _ _ _=>rfl,fun x a=>lL (h.own x a) k.size⟩
theorem St.ae(h:St w ρ P A f J)(k:Frm (fun x=>ρ x=0) w w'):St w' ρ P A f J:=
 h.of k (fun x e=>by rw[e];exact aDX) (fun _ _ _=>rfl) fun b a=>a.ae (Kp.same a k) fun x _ e q=>q.1 e
theorem St.below(h:St w ρ P A f J)(k:Bl w w'):St w' ρ P A f J:=h.ae (Frm.aa k)
theorem St.setC(h:St w ρ P A f J){b:Nat}(n:b<f.c.length)(v:Int):St (w.setCell (aD A.c b) (iV v)) ρ P A (setC f b v) J/\Mv (fun _=>False) w ρ (w.setCell (aD A.c b) (iV v)) ρ:=by
 have g:ρ A.c=4:=by obtain⟨_,_,_,i,_⟩:=h;exact i.rc
 have k:Frm (fun x=>x=A.c) w (w.setCell (aD A.c b) (iV v)):=Frm.set (S:=fun x=>x=A.c) w (p:=aD A.c b) rfl _;refine⟨h.of k (fun x e=>by rw[e,g];exact aDZ.2) (fun _ _ _=>rfl) fun o a=>?_,k.wide (fun x _ e=>.inl (by rw[e,g];omega)),fun _ _ _=>rfl⟩;have c:∀{x r},ρ x=r->r≠4->¬x=A.c:=fun {x r} e j q=>j (by rw[<-e,q,g]);refine a.gen (Kp.same a k) (.inl ⟨c a.rP (by omega),?_⟩) (.inl ⟨c a.rr (by omega),rfl,rfl⟩) (.inl ⟨c a.rm (by omega),rfl⟩) rfl (.inr ?_) rfl (.inl ⟨c a.rd (by omega),rfl,rfl⟩) (fun x d l=>.inl ⟨l,rfl,rfl,fun y m=>?_⟩) a.no a.rs a.ds
 ·simp[dH,Fo.setC]
 ·have:=a.hc.set b (iV v)
  rw[aFP]at this;exact this
 ·rcases m with e | e
  ·exact c e (by unfold cK;omega)
  ·exact c e (by unfold cI;omega)
def noN(f:fZ)(b:Nat):fZ:={f with n:=upd f.n b none}
def gU(A:Adr)(b:Nat):Adr:={A with φ:=upd A.φ b none}
def dB(A:Adr)(b q:Nat)(a:Option Nat):Adr:={A with φ:=upd A.φ b (some q),α:=upd A.α b a}
def dR(A:Adr)(b:Nat)(a:Option Nat):Adr:={A with α:=upd A.α b a}
theorem St.del(h:St w ρ P A f J){b:Nat}(m:dV w' A.m (upd A.φ b none))(k:Frm (fun x=>x=A.m) w w'):St w' ρ P (gU A b) (noN f b) J/\Mv (fun _=>False) w ρ w' ρ:=by
 have i:ρ A.m=3:=by obtain⟨_,_,_,l,_⟩:=h;exact l.rm
 refine⟨h.of k (fun x e=>by rw[e,i];exact vM.2) (fun _ _ _=>rfl) fun p a=>?_,k.wide (fun x _ e=>.inl (by rw[e,i];omega)),fun _ _ _=>rfl⟩;have g:∀{x r},ρ x=r->r≠3->¬x=A.m:=fun {x r} e n q=>n (by rw[<-e,q,i]);refine a.gen (A':=gU A b) (f':=noN f b) (Kp.same a k) (.inl ⟨g a.rP (by omega),rfl⟩) (.inl ⟨g a.rr (by omega),rfl,rfl⟩) (.inr m) rfl (.inl ⟨g a.rc (by omega),rfl⟩) rfl (.inl ⟨g a.rd (by omega),rfl,rfl⟩) (fun x d j=>.inl ?_) (fun x j=>?_) a.rs a.ds
 ·have c:upd f.n b none x=some d:=j
  by_cases e:x=b
  ·subst e;rw[aE]at c;cases c
  ·rw[aC _ _ e]at c
   refine⟨c,aC _ _ e,rfl,fun y o=>?_⟩;rcases o with e | e
   ·exact g e (by unfold cK;omega)
   ·exact g e (by unfold cI;omega)
 ·show upd A.φ b none x=none
  by_cases e:x=b
  ·rw[e,aE]
  ·rw[aC _ _ e]
   exact a.no x (by have c:upd f.n b none x=none:=j;rwa [aC _ _ e]at c)
def vA(ρ:Nat->Nat)(q:Nat)(a:Option Nat)(b:Nat):Nat->Nat:=fun k=>if k=q then cK b else if a=some k then cI b else ρ k
def jI(ρ:Nat->Nat)(a:Option Nat)(b:Nat):Nat->Nat:=fun k=>if a=some k then cI b else ρ k
theorem xR{q:Nat}{a:Option Nat}{b x:Nat}(h:x≠q)(c:a≠some x):vA ρ q a b x=ρ x:=by simp[vA,h,c]
theorem xQ{a:Option Nat}{b x:Nat}(c:a≠some x):jI ρ a b x=ρ x:=by simp[jI,c]
theorem St.put(h:St w ρ P A f J){b q:Nat}{d:Nd}{a:Option Nat}{junk:List E3}(n:aN w q d a junk)(t:ρ q=0)(s:∀g,a=some g->ρ g=0)(D:dV w' A.m (upd A.φ b (some q)))(k:Frm (fun x=>x=A.m) w w'):
  St w' (vA ρ q a b) P (dB A b q a) (setN f b d) J/\Mv (fun x=>x=q\/a=some x) w ρ w' (vA ρ q a b):=by
 have m:ρ A.m=3:=by obtain⟨_,_,_,B,_⟩:=h;exact B.rm
 have u:∀x,ρ x≠0->vA ρ q a b x=ρ x:=fun x j=>xR (fun e=>j (e▸t)) (fun e=>j (s x e));have v:q≠A.m:=fun e=>by rw[e,m]at t;omega
 have z:∀g,a=some g->g≠A.m:=fun g e e'=>by have:=s g e;rw[e',m]at this;omega
 refine⟨h.of k (fun x e=>by rw[e,m];exact vM.2) (fun x _ e=>u x fun q=>aDX (q▸e)) fun G i=>?_,k.wide (fun x _ e=>.inl (by rw[e,m];omega)),fun x _ e=>xR (fun q=>e (.inl q)) fun q=>e (.inr q)⟩;have l:∀{x r},ρ x=r->r≠3->¬x=A.m:=fun {x r} e E q=>E (by rw[<-e,q,m]);have C:Kp (fun x=>x=A.m) w ρ w' (vA ρ q a b):=⟨k,fun x _ e=>u x e.1,fun x j=>by
  by_cases o:x=q
  ·rw[o];exact lL n.box.lt k.size
  ·by_cases p:a=some x
   ·exact lL (n.arr x p).1.lt k.size
   ·rw[xR o p]at j;exact lL (i.own x j) k.size⟩
 refine i.gen (A':=dB A b q a) (f':=setN f b d) C (.inl ⟨l i.rP (by omega),rfl⟩) (.inl ⟨l i.rr (by omega),rfl,rfl⟩) (.inr D) rfl (.inl ⟨l i.rc (by omega),rfl⟩) rfl (.inl ⟨l i.rd (by omega),rfl,rfl⟩) (fun x d' j=>?_) (fun x j=>?_) i.rs i.ds
 ·have c:upd f.n b (some d) x=some d':=j
  by_cases e:x=b
  ·subst e
   rw[aE]at c;cases c;refine .inr ⟨q,aE _ _ _,by simp[vA],fun g e=>?_,junk,?_⟩
   ·have e':a=some g:=by rw[<-e];exact(aE _ _ _).symm
    have:g≠q:=(n.arr g e').2
    simp[vA,this,e']
   ·rw[show(dB A x q a).α x=a from aE _ _ _]
    exact n.ae k v z
  ·rw[aC _ _ e]at c
   refine .inl ⟨c,aC _ _ e,aC _ _ e,fun y F=>?_⟩;rcases F with e | e
   ·exact l e (by unfold cK;omega)
   ·exact l e (by unfold cI;omega)
 ·show upd A.φ b (some q) x=none
  have c:upd f.n b (some d) x=none:=j;by_cases e:x=b
  ·subst e;rw[aE]at c;cases c
  ·rw[aC _ _ e]at c |-;exact i.no x c
theorem St.node(h:St w ρ P A f J){b q:Nat}{d d':Nd}(E:f.n b=some d)(v:A.φ b=some q){a':Option Nat}{junk':List E3}(k:Frm (fun x=>x=q\/A.α b=some x) w w')(u:aN w' q d' a' junk')(D:∀g,a'=some g->A.α b=some g\/w.heap.size<=g):
  St w' (jI ρ a' b) P (dR A b a') (setN f b d') J/\Mv (fun _=>False) w ρ w' (jI ρ a' b):=by
 have l:ρ q=cK b/\(∀g,A.α b=some g->ρ g=cI b):=by
  obtain⟨_,_,_,n,_⟩:=h;obtain⟨I,t,m,z,_⟩:=n.nd b d E;rw[v]at t;cases t;exact⟨m,z⟩
 have s:∀x,ρ x≠0->x<w.heap.size:=by obtain⟨_,_,_,n,_⟩:=h;exact n.own
 have o:∀x,x<w.heap.size->jI ρ a' b x=ρ x:=fun x a=>by
  by_cases e:a'=some x
  ·rcases D x e with e' | e'
   ·simp only[jI,e,if_true];exact(l.2 x e').symm
   ·omega
  ·exact xQ e
 have p:∀x,x=q\/A.α b=some x->ρ x=cK b\/ρ x=cI b:=fun x e=>by
  rcases e with e | e
  ·left;rw[e];exact l.1
  ·right;exact l.2 x e
 have F:q<w.heap.size:=s q (by rw[l.1];unfold cK;omega);refine⟨h.of k (fun x e=>?_) (fun x a _=>o x a) fun H i=>?_,k.wide (fun x _ e=>.inl ?_),fun x a _=>o x a⟩
 ·rcases p x e with e | e<;>rw[e]
  ·exact aBX b
  ·exact aBY b
 ·have j:∀{x r},ρ x=r->r≠cK b->r≠cI b->¬(x=q\/A.α b=some x):=fun {x r} e n B q=>by
   rcases p x q with e' | e'
   ·exact n (e.symm.trans e')
   ·exact B (e.symm.trans e')
  have C:Kp (fun x=>x=q\/A.α b=some x) w ρ w' (jI ρ a' b):=⟨k,fun x a e=>o x a,fun x a=>by
   by_cases e:a'=some x
   ·exact(u.arr x e).1.lt
   ·rw[xQ e]at a;exact lL (s x a) k.size⟩
  have u1:1≠cK b/\1≠cI b:=by unfold cK cI;omega
  have u2:2≠cK b/\2≠cI b:=by unfold cK cI;omega
  have u3:3≠cK b/\3≠cI b:=by unfold cK cI;omega
  have u4:4≠cK b/\4≠cI b:=by unfold cK cI;omega
  have u5:5≠cK b/\5≠cI b:=by unfold cK cI;omega
  refine i.gen (A':=dR A b a') (f':=setN f b d') C (.inl ⟨j i.rP u1.1 u1.2,rfl⟩) (.inl ⟨j i.rr u2.1 u2.2,rfl,rfl⟩) (.inl ⟨j i.rm u3.1 u3.2,rfl⟩) rfl (.inl ⟨j i.rc u4.1 u4.2,rfl⟩) rfl (.inl ⟨j i.rd u5.1 u5.2,rfl,rfl⟩) (fun x d2 a=>?_) (fun x a=>?_) i.rs i.ds
  ·have c:upd f.n b (some d') x=some d2:=a
   by_cases e:x=b
   ·subst e
    rw[aE]at c;cases c;refine .inr ⟨q,v,by rw[o q F];exact l.1,fun g e=>?_,junk',?_⟩
    ·have e':a'=some g:=by rw[<-e];exact(aE _ _ _).symm
     simp[jI,e']
    ·rw[show(dR A x a').α x=a' from aE _ _ _]
     exact u
   ·rw[aC _ _ e]at c
    refine .inl ⟨c,rfl,aC _ _ e,fun y G=>?_⟩;rcases G with m | m
    ·exact j m (by unfold cK;omega) (by unfold cK cI;omega)
    ·exact j m (by unfold cK cI;omega) (by unfold cI;omega)
  ·have c:upd f.n b (some d') x=none:=a
   by_cases e:x=b
   ·subst e;rw[aE]at c;cases c
   ·rw[aC _ _ e]at c;exact i.no x c
 ·rcases p x e with e | e<;>rw[e]
  ·unfold cK;omega
  ·unfold cI;omega
end Go.Proofs.YtmpagpeenjddgaaGreat
namespace Go.Proofs.YtmpagpeenjddgaaGreat
open Go.RowKit Fo
variable{A:Adr}{K v:Int}{zs:List Int}{dj:List Value}{P b c:Nat}{ρ:Nat->Nat}{jv:Value}{w:World}{f:fZ}
theorem IsC.ne{g g':Nat}{cs cs':Array Value}{t t':TypeId}(h:IsC w g cs t)(a:IsC w g' cs' t')(ht:t≠t'):g≠g':=fun e=>by
 subst e;unfold IsC at h a;rw[h]at a;simp only[sJ,Obj.cells.injEq]at a;exact ht a.2.1
structure Sz(K:Int)(f:fZ):Prop where
 al:f.c.length<=512
 n8:8<=f.c.length
 m:f.m.length=f.c.length
 ai:∀b d,f.n b=some d->d.2.length<=10
 lt:∀b d,f.n b=some d->b<f.c.length
 cb:∀i,0<=cu f i/\cu f i<=K
 mb:∀i,0<=co f i/\co f i<=1000000
theorem Sz.of{f':fZ}(h:Sz K f)(h1:f'.c.length=f.c.length)(h2:f'.m=f.m)(c:∀i,0<=cu f' i/\cu f' i<=K)(h3:∀b d,f'.n b=some d->(f.n b=some d)\/(b<f.c.length/\d.2.length<=10)):Sz K f':=by
 refine⟨by rw[h1];exact h.al,by rw[h1];exact h.n8,by rw[h1,h2];exact h.m,fun b d a=>?_,fun b d a=>?_,c,by unfold co;rw[h2];exact h.mb⟩
 ·rcases h3 b d a with q | q
  ·exact h.ai b d q
  ·exact q.2
 ·rw[h1]
  rcases h3 b d a with q | q
  ·exact h.lt b d q
  ·exact q.1
theorem Sz.up{L:Int}(h:Sz K f)(a:K<=L):Sz L f:={h with cb:=fun i=>⟨(h.cb i).1,Int.le_trans (h.cb i).2 a⟩}
theorem aNR(h:∀i,0<=cu f i/\cu f i<=K)(b:Nat)(a:0<=v)(c:v<=K)(i:Nat):0<=(f.c.set b v).getD i 0/\(f.c.set b v).getD i 0<=K:=by
 rw[gD,List.getElem?_set];have:=h i;unfold cu at this;rw[gD]at this;split
 ·split
  ·exact⟨a,c⟩
  ·simp only[Option.getD_none];exact⟨by omega,by have:=h b;omega⟩
 ·exact this
theorem Sz.setC(h:Sz K f)(b:Nat)(a:0<=v)(c:v<=K):Sz K (setC f b v):=h.of (by simp[Fo.setC]) rfl (aNR h.cb b a c) fun _ _ q=>.inl q
theorem Sz.noN(h:Sz K f)(b:Nat):Sz K (noN f b):=h.of rfl rfl h.cb fun x d q=>by
 have a:upd f.n b none x=some d:=q;by_cases e:x=b
 ·rw[e,aE]at a;cases a
 ·rw[aC _ _ e]at a;exact .inl a
theorem Sz.setN(h:Sz K f)(g:b<f.c.length){d:Nd}(hd:d.2.length<=10):Sz K (setN f b d):=h.of rfl rfl h.cb fun x e q=>by
 have a:upd f.n b (some d) x=some e:=q;by_cases c:x=b
 ·subst c;rw[aE]at a;cases a;exact .inr ⟨g,hd⟩
 ·rw[aC _ _ c]at a;exact .inl a
theorem mD(w:World)(ρ:Nat->Nat)(P:Nat)(A:Adr)(f:fZ)(J:List aS)(b:Nat)(h:St w ρ P A f J)(hz:Sz K f)(hb:b<f.c.length)(lq:J.length<=900000):
  Calls Tryz.prog 114 #[pT P 0,iV b] w fun e w'=>e=.returned (.tuple #[])/\∃ρ',St w' ρ' P A f (J++[(b,cu f b,f.n b)])/\Mv (fun _=>False) w ρ w' ρ'/\KeepsOthers w w'/\Frm (fun k=>ρ k=1\/ρ k=6) w w':=by
 obtain⟨T,I,jj,c,L7⟩:=h;have z:=L7 (by omega);have ho:=c.own;obtain⟨d,M⟩:∃d,d=(f.n b).getD (0,[]):=⟨_,rfl⟩;have H:∀q,A.φ b=some q->f.n b=some d/\∃a D,aN w q d a D:=fun q e=>by
  cases G:f.n b with
  | none=>rw[c.no b G]at e;cases e
  | some d'=>
   rw[G]at M;simp only[Option.getD_some]at M;subst M;obtain⟨l,p,E,Q,j,e4⟩:=c.nd b d G;rw[e]at p;cases p;exact⟨rfl,_,j,e4⟩
 have gh:d.2.length<=10:=by
  cases G:f.n b with
  | none=>rw[M,G];simp
  | some d'=>rw[G]at M;simp only[Option.getD_some]at M;subst M;exact hz.ai b d G
 refine(aKK P A.m A.c f.c.length b _ _ A.tv f.next f.gen f.c A.φ T I jj w c.hP c.hc rfl hb hz.al c.hm d (fun q e=>(H q e).2) gh (fun g e=>?_) z.nil z.small (by rw[z.len];exact lq)).mono ?_
 ·obtain⟨F,s⟩:=z.arr g e
  exact⟨F,fun q=>by rw[q,c.rP]at s;omega,fun q=>by rw[q,c.rm]at s;omega,fun q=>by rw[q,c.rc]at s;omega⟩
 rintro e w' ⟨rfl,t,u,N,k1,k2,k3,k4,⟨w1,k5,k6⟩,O⟩;refine⟨rfl,?_⟩;obtain⟨v,qy⟩:∃v:Option Nat,(t=none->f.n b=none/\v=none)/\(∀g,v=some g->w.heap.size<=g/\∃cs,IsC w' g cs 130)/\∀l,t=some l->w.heap.size<=l/\(∃cs,IsC w' l cs 96)/\f.n b=some d/\∃j,aN w' l d v j:=by
  cases U:A.φ b with
  | none=>
   have:t=none:=k5.none U
   refine⟨none,fun _=>⟨?_,rfl⟩,fun g e=>(by cases e),fun l e=>by rw[this]at e;cases e⟩;cases G:f.n b with
   | none=>rfl
   | some d'=>obtain⟨l,p,_⟩:=c.nd b d' G;rw[U]at p;cases p
  | some q=>
   obtain⟨l,v,j',p,E,Q,e4⟩:=k5.some q U;have hS:∀y,w.heap.size<=y->¬(y=P\/T=some y):=fun y hy q=>by
    rcases q with q | q
    ·have:=c.hP.lt;omega
    ·have:=(z.arr y q).1.lt;omega
   have e5:aN w' l d v j':=e4.ae k6 (hS l E) fun g e=>hS g (Q g e);refine⟨v,fun e=>(by rw[p]at e;cases e),fun g e=>⟨Q g e,_,(e5.arr g e).1⟩,fun q2 e=>?_⟩;rw[p]at e;cases e;exact⟨E,⟨_,e5.box⟩,(H q U).1,j',e5⟩
 obtain⟨c1,Y,R⟩:=qy;obtain⟨ρ',C⟩:∃ρ':Nat->Nat,ρ'=fun k=>if k<w.heap.size then ρ k else if t=some k then jZ J.length else if v=some k then kC J.length else if u=some k then 6 else 0:=⟨_,rfl⟩;have m:∀k,k<w.heap.size->ρ' k=ρ k:=fun k B=>by rw[C];simp[B]
 have rbx:∀l,t=some l->ρ' l=jZ J.length:=fun l e=>by
  have:=(R l e).1
  rw[C];simp[e,show ¬l<w.heap.size by omega]
 have rnt:∀g,v=some g->ρ' g=kC J.length:=fun g e=>by
  obtain⟨F,cs,s⟩:=Y g e;have W:t≠some g:=fun q=>by
   obtain⟨_,⟨Z,n⟩,_⟩:=R g q;exact IsC.ne s n (by decide) rfl
  rw[C];simp[e,W,show ¬g<w.heap.size by omega]
 have rjn:∀g,u=some g->ρ' g=6:=fun g e=>by
  obtain⟨F,s⟩:=k2 g e;by_cases S:g<w.heap.size
  ·rw[m g S]
   rcases s with s | s
   ·exact(z.arr g s).2
   ·omega
  ·have W:t≠some g:=fun q=>by
    obtain⟨_,⟨Z,n⟩,_⟩:=R g q;exact IsC.ne F n (by decide) rfl
   have TU:v≠some g:=fun q=>by
    obtain⟨_,cs,n⟩:=Y g q;exact IsC.ne F n (by decide) rfl
   rw[C];simp[e,W,TU,S]
 have ui:∀k,ρ' k≠0->k<w'.heap.size:=fun k B=>by
  by_cases S:k<w.heap.size
  ·exact lL S O.size
  ·by_cases p:t=some k
   ·obtain⟨_,⟨_,n⟩,_⟩:=R k p;exact n.lt
   ·by_cases E:v=some k
    ·obtain⟨_,_,n⟩:=Y k E;exact n.lt
    ·by_cases Q:u=some k
     ·exact(k2 k Q).1.lt
     ·rw[C]at B;simp[S,p,E,Q]at B
 have V:∀x,x=P\/T=some x->ρ x=1\/ρ x=6:=fun x e=>by
  rcases e with e | e
  ·left;rw[e];exact c.rP
  ·right;exact(z.arr x e).2
 have L:∀{x r},ρ x=r->r≠1->r≠6->¬(x=P\/T=some x):=fun {x r} e F s q=>by
  rcases V x q with e' | e'
  ·exact F (e.symm.trans e')
  ·exact s (e.symm.trans e')
 have AY:KeepsOthers w w':=⟨O.size,fun k o B hc=>by
  refine(O.block k (Array.getElem?_eq_some_iff.1 B).1 fun e=>?_).trans B;rcases e with e | e
  ·subst e;rw[show w.heap[k]?=_ from c.hP]at B;cases B;cases hc
  ·rw[show w.heap[k]?=_ from(z.arr k e).1]at B;cases B;cases hc⟩
 refine⟨ρ',⟨u,I++[((b:Int),cu f b,t)],N,?_,?_⟩,⟨O.wide (fun x H e=>.inl ?_),fun x H _=>m x H⟩,AY,O.wide fun x _ e=>V x e⟩
 ·have hK:Kp (fun x=>x=P\/T=some x) w ρ w' ρ':=⟨O,fun x H _=>m x H,ui⟩
  refine c.gen hK (.inr ?_) (.inl ⟨L c.rr (by omega) (by omega),rfl,rfl⟩) (.inl ⟨L c.rm (by omega) (by omega),rfl⟩) rfl (.inl ⟨L c.rc (by omega) (by omega),rfl⟩) rfl (.inl ⟨L c.rd (by omega) (by omega),rfl,rfl⟩) (fun x d H=>.inl ⟨H,rfl,rfl,fun y hy=>?_⟩) c.no c.rs c.ds
  ·have:dH A f (aJC u (I++[((b:Int),cu f b,t)]) N)=dH A f (.slice (adr u) (I.length+1) (I.length+1+N.length)):=by simp[aJC]
   rw[this];exact k1
  ·rcases hy with e | e
   ·exact L e (by unfold cK;omega) (by unfold cK;omega)
   ·exact L e (by unfold cI;omega) (by unfold cI;omega)
 ·refine fun _=>⟨fun g e=>⟨(k2 g e).1,rjn g e⟩,fun e=>absurd e k3,by simpa using k4,by simp[z.len],fun i hi=>?_⟩
  by_cases hi':i<J.length
  ·obtain⟨F,s,n⟩:=z.row i hi'
   have p:(J++[(b,cu f b,f.n b)]).getD i jr0=J.getD i jr0:=by
    rw[gD,List.getElem?_append_left hi',<-gD]
   have E:(I++[((b:Int),cu f b,t)]).getD i j0=I.getD i j0:=by
    rw[gD,List.getElem?_append_left (by rw[z.len];exact hi'),<-gD]
   rw[p,E];refine⟨F,s,?_⟩;cases e:(J.getD i jr0).2.2 with
   | none=>rw[e]at n;exact n
   | some dd=>
    rw[e]at n;obtain⟨q,a,D,m1,m2,m3,m4⟩:=n;have b1:=ho q (by rw[m2];unfold jZ;omega);refine⟨q,a,D,m1,by rw[m q b1,m2],fun g e=>?_,m4.ae O (L m2 (by unfold jZ;omega) (by unfold jZ;omega)) fun g e=>L (m3 g e) (by unfold kC;omega) (by unfold kC;omega)⟩;have b2:=ho g (by rw[m3 g e];unfold kC;omega);rw[m g b2,m3 g e]
  ·have AW:i=J.length:=by simp at hi;omega
   subst AW;have p:(J++[(b,cu f b,f.n b)]).getD J.length jr0=(b,cu f b,f.n b):=by simp[gD]
   have E:(I++[((b:Int),cu f b,t)]).getD J.length j0=((b:Int),cu f b,t):=by rw[<-z.len];simp[gD]
   rw[p,E];refine⟨rfl,rfl,?_⟩;cases X:t with
   | none=>simp only[(c1 X).1]
   | some l=>
    obtain⟨F,s,n,j,h4⟩:=R l X;simp only[n];exact⟨l,v,j,rfl,rbx l X,rnt,h4⟩
 ·rcases V x e with e | e<;>omega
theorem zG(zs ys:List Int)(n:Nat):∀l:List Nat,(∀x∈l,x<n)->
  (l.filterMap fun i=>if h:2<=i/\i<n then(if isF zs ys i then some (⟨i,h⟩:Blk n)else none)else none).head?.map (fun x=>x.1)=l.find? fun b=>decide (2<=b) && (zs.getD b 0 == 0) && (ys.getD b 0 == 0)
 | [],_=>rfl
 | a :: l,h=>by
  have ih:=zG zs ys n l fun x f=>h x (List.mem_cons_of_mem _ f);have e:=h a List.mem_cons_self;by_cases d:2<=a
  ·by_cases c:isF zs ys a=true
   ·have:(decide (2<=a) && (zs.getD a 0 == 0) && (ys.getD a 0 == 0))=true:=by
     unfold isF at c;simp only[Bool.and_eq_true]at c |-;exact⟨⟨by simpa using d,c.1⟩,c.2⟩
    rw[List.filterMap_cons_some (b:=(⟨a,d,e⟩:Blk n)) (by simp[d,e,c]),List.find?_cons_of_pos (p:=fun b=>decide (2<=b) && (zs.getD b 0 == 0) && (ys.getD b 0 == 0)) this];rfl
   ·have:¬(decide (2<=a) && (zs.getD a 0 == 0) && (ys.getD a 0 == 0))=true:=fun q=>c (by
     unfold isF;simp only[Bool.and_eq_true]at q |-;exact⟨q.1.2,q.2⟩)
    rw[List.filterMap_cons_none (by simp[d,e,c]),List.find?_cons_of_neg (p:=fun b=>decide (2<=b) && (zs.getD b 0 == 0) && (ys.getD b 0 == 0)) this];exact ih
  ·rw[List.filterMap_cons_none (by simp[d]),List.find?_cons_of_neg (p:=fun b=>decide (2<=b) && (zs.getD b 0 == 0) && (ys.getD b 0 == 0)) (by simp[d])]
   exact ih
theorem aOI(f:fZ):low f.c f.m=(aG f:Int):=by
 have h:=zG f.c f.m f.c.length (List.range f.c.length) (fun x a=>by simpa using a);unfold low aG cu co;rw[<-h];unfold frs;split
 ·rename_i e;rw[e];rfl
 ·rename_i x l e;rw[e];rfl
theorem mB{ys:List Int}(h:IsC w c (dA (zs++ys)) 2)(b:∀i,0<=zs.getD i 0/\zs.getD i 0<=2000000):Nts w (sL c 0 zs.length (zs.length+ys.length)) zs:=by
 refine⟨fun i=>by have:=b i;omega,_,_,rfl,fun _=>⟨c,0,rfl,fun i a=>?_⟩⟩;rw[h.cell];simp only[dA,Nat.zero_add,List.getElem?_toArray,List.map_append,gD];rw[List.getElem?_append_left (by simpa using a),List.getElem?_map,gE a];rfl
theorem xK(h:IsC w c (jG zs dj) 2)(b:∀i,0<=zs.getD i 0/\zs.getD i 0<=2000000):Nts w (sL c 0 zs.length (zs.length+dj.length)) zs:=by
 refine⟨fun i=>by have:=b i;omega,_,_,rfl,fun _=>⟨c,0,rfl,fun i a=>?_⟩⟩;rw[h.cell];simp only[jG,Nat.zero_add,List.getElem?_toArray,gD];rw[List.getElem?_append_left (by simpa using a),List.getElem?_map,gE a];rfl
theorem aNT(h:IsC w c (jG zs dj) 2){i:Nat}(a:i<zs.length):w.cell? (aD c i)=some (iV (zs.getD i 0)):=by
 rw[h.cell];simp only[jG,List.getElem?_toArray,gD];rw[List.getElem?_append_left (by simpa using a),List.getElem?_map,gE a];rfl
structure TkS(P m c:Nat)(n:Nat)(dv jv:Value)(w:World):Prop where
 m3:w.cell? (aD P 3)=some (.map (some m))
 m4:w.cell? (aD P 4)=some (sL c 0 n n)
 m5:w.cell? (aD P 5)=some dv
 m7:w.cell? (aD P 7)=some jv
theorem Rp.cells(h:Rp w ρ P A f jv):TkS P A.m A.c f.c.length (sL A.d 0 f.m.length (f.m.length+A.dj.length)) jv w:=
 ⟨by rw[h.hP.cell];rfl,by rw[h.hP.cell];rfl,by rw[h.hP.cell];rfl,by rw[h.hP.cell];rfl⟩
theorem Mv.aa{X:Nat->Prop}{w':World}(h:Bl w w'):Mv X w ρ w' ρ:=⟨Frm.aa h,fun _ _ _=>rfl⟩
theorem Rp.count(h:Rp w ρ P A f jv)(a:b<f.c.length):w.cell? (aD A.c b)=some (iV (cu f b)):=by
 rw[h.hc.cell];simp[dA,cu,gD,a]
theorem aA{p:Prop}(h:p):Hid p:=h
abbrev aCH:Ending:=.panicked [{v:=.iface 160 (.agg #[]),recovered:=false}]
structure aOX(w:World)(ρ:Nat->Nat)(P:Nat)(A:Adr)(f:fZ)(J:List aS)(q:Nat)(d:Nd)(a:Option Nat)(e:Ending)(w':World):Prop where
 no:aG f=0->e=aCH/\Bl w w'
 yes:aG f≠0->e=.returned (iV (aG f))/\∃ρ',St w' ρ' P (dB A (aG f) q a) (takeAt f (aG f) d) (J++[(aG f,cu f (aG f),f.n (aG f))])/\Mv (fun x=>x=q\/a=some x) w ρ w' ρ'/\Frm (fun k=>ρ k=1\/ρ k=6\/ρ k=3\/ρ k=4) w w'
theorem pB(w:World)(ρ:Nat->Nat)(P:Nat)(A:Adr)(f:fZ)(J:List aS)(q:Nat)(d:Nd)(a:Option Nat)(c:List E3)(h:St w ρ P A f J)(n:Sz K f)(hK:K<=1000000)(lq:J.length<=900000)(hN:aN w q d a c)(G:ρ q=0)(F:∀g,a=some g->ρ g=0):
  Calls Tryz.prog 115 #[pT P 0,pT q 0] w (aOX w ρ P A f J q d a):=by
 have pn:=h;obtain⟨ja,jp,jj,m,hJ⟩:=h;obtain⟨m3,I,L,m7⟩:=m.cells;have y:=sY (some ⟨A.c,0,none⟩) (some ⟨A.d,0,none⟩) f.c.length (f.m.length+A.dj.length) f.c f.m n.m n.al n.n8;rw[aOI]at y;have qe:∀w:World,IsC w A.c (dA f.c) 2->Nts w (sL A.c 0 f.c.length f.c.length) f.c:=fun w h=>by
  have:=mB (ys:=[]) (by simpa using h:IsC w A.c (dA (f.c++[])) 2) (fun i=>by have:=n.cb i;unfold cu at this;omega)
  simpa using this
 have O:∀w:World,IsC w A.d (jG f.m A.dj) 2->Nts w (sL A.d 0 f.m.length (f.m.length+A.dj.length)) f.m:=fun w h=>xK h (fun i=>by have:=n.mb i;unfold co at this;omega);go_enter Tryz.func115,Tryz.ntmps115;go_wp2;go_region_held3 (fun w'=>w'.cell? (aD P 4)=some (sL A.c 0 f.c.length f.c.length)/\w'.cell? (aD P 5)=some (sL A.d 0 f.m.length (f.m.length+A.dj.length))) (first | go_keep | exact⟨I,L⟩ | exact⟨(l.cell (p:=aD P 4) m.hP.lt).trans I,(l.cell (p:=aD P 5) m.hP.lt).trans L⟩) ((go_at_call 134;refine(y _ (qe _ ?_) (O _ ?_)).mono ?_;exact m.hc;exact m.hd;rintro e w1 ⟨rfl,Y⟩;have l:Bl w w1:=(bQ w.heap.size w).drew.trans Y));by_cases t:aG f=0
 ·have V:((aG f:Nat):Int)=0:=by omega
  go_wp2
  exact⟨rfl,fun _=>⟨rfl,l⟩,fun q=>absurd t q⟩
 ·have V:¬((aG f:Nat):Int)=0:=by omega
  obtain⟨l1,u,l3,l4⟩:=aP t;have U:St w1 ρ P A f J:=pn.below l;go_wp2_with fail;refine(mD _ ρ P A f J (aG f) U n u lq).mono ?_;rintro e w2 ⟨rfl,ρ2,C,r,-,M⟩;have s:aN w1 q d a c:=hN.below l;have uf:aN w2 q d a c:=s.ae r.ae (fun e=>by rcases e with e | e;exact e G;exact e) fun g Z e=>by rcases e with e | e;exact e (F g Z);exact e
  have i9:ρ2 q=0:=by rw[r.bu q s.box.lt (fun e=>e)];exact G
  have W:∀g,a=some g->ρ2 g=0:=fun g e=>by rw[r.bu g (s.arr g e).1.lt (fun e=>e)];exact F g e
  obtain⟨ja2,jp2,jj2,H,qn⟩:=id C;obtain⟨n3,n4,n5,n7⟩:=H.cells;obtain⟨o,hr3,R,D⟩:=H.hm.put (aG f) q (by have:=n.al;omega);obtain⟨E,S⟩:=C.put uf i9 W R D;obtain⟨ja3,jp3,jj3,v,vd⟩:=id E;have o4:o.cell? (aD P 4)=some (sL A.c 0 f.c.length f.c.length):=v.cells.m4;have jy:o.cell? (aD A.c (aG f))=some (iV 0):=by
   have:=v.hc.cell (aG f)
   rw[show(dB A (aG f) q a).c=A.c from rfl]at this;rw[this];have j:f.c.getD (aG f) 0=0:=l3;rw[gD]at j;simp only[dA,List.getElem?_toArray,List.getElem?_map,setN,gE u]at j |-;simp at j |-;exact j
  have Ic:o.frozen? (aD A.c (aG f))=false:=v.hc.frozen (aG f);obtain⟨B,z⟩:=E.setC (b:=aG f) u 1;have l2i:((aG f:Nat):Int) <(f.c.length:Int):=by omega
  have N:=aA B;have T:=aA z;clear B z;go_wp2;go_ret;refine⟨fun q=>absurd q t,fun _=>⟨rfl,_,N.out,?_,?_⟩⟩
  ·exact(((Mv.aa (X:=fun x=>x=q\/a=some x) (ρ:=ρ) l).trans r (fun _ _ e=>e.elim)).trans S (fun x _ e=>e)).trans T.out (fun _ _ e=>e.elim)
  ·have Q:Frm (fun k=>ρ k=1\/ρ k=6\/ρ k=3\/ρ k=4) w o:=((Frm.aa l).next M (fun x _ e=>by rcases e with e | e;exact .inl e;exact .inr (.inl e))).next D (fun x _ e=>.inr (.inr (.inl (by rw[e];exact m.rm))))
   exact Q.trans (Frm.set o (p:=aD A.c (aG f)) (.inr (.inr (.inr m.rc))) _)
theorem aMC(w:World)(ρ:Nat->Nat)(P:Nat)(A:Adr)(f:fZ)(J:List aS)(b:Nat)(h:St w ρ P A f J)(l:Sz K f)(z:J.length<=900000)(c:b<f.c.length):
  Calls Tryz.prog 105 #[pT P 0,iV b] w fun e w'=>e=.returned (.tuple #[])/\∃ρ',St w' ρ' P (gU A b) (freeB f b) (J++[(b,cu f b,f.n b)])/\Mv (fun _=>False) w ρ w' ρ':=by
 go_enter Tryz.func105,Tryz.ntmps105
 go_wp2_with fail
 refine(mD _ ρ P A f J b h l c z).mono ?_;rintro e n ⟨rfl,ρ2,j,B,-⟩;obtain⟨s,x,u,d,O⟩:=id j;obtain⟨H,I,L,M⟩:=d.cells;have D:(b:Int) <(f.c.length:Int):=by omega
 have G:=d.count c;have F:n.frozen? (aD A.c b)=false:=d.hc.frozen b;obtain⟨a,g⟩:=j.setC (b:=b) c 0;obtain⟨t,y,v,m,Q⟩:=id a;obtain⟨R,E,C,r⟩:=m.hm.del b (by have:=l.al;omega) 0;have N:(n.setCell (aD A.c b) (iV 0)).cell? (aD P 3)=some (.map (some A.m)):=m.cells.m3;obtain⟨k,i⟩:=a.del (b:=b) C r;have o:=aA k;have q:=aA i;have p:=aA g;clear k i g a;go_wp2;go_end0;exact⟨rfl,ρ2,o.out,(B.trans p.out (fun _ _ e=>e)).trans q.out (fun _ _ e=>e)⟩
end Go.Proofs.YtmpagpeenjddgaaGreat
namespace Go.Proofs.YtmpagpeenjddgaaGreat
open Go.RowKit Go.Shelf Fo
variable{Bn q:Nat}{a:Option Nat}{W W':World}
attribute [local go_sem] Oper.semAt_some
def aHJ(F:Fence)(n:Nat)(P:Program)(g:Nat)(lb:Array Value)(vs:List Nat)(Kp:World->World->Prop)(w:World):Prop:=
 ∀(l:Nat) (J:List Nat->World->Prop) (W:World),Bl w W->AbidesFrom W.heap.size J->
  (∀(pre:List Nat) (x:Nat) (W1:World),J pre W1->pre++[x] <+: vs->YieldAt F (n-1) P l #[iV (x:Int)] W1 fun e W'=>e=.returned (.bool true)/\J (pre++[x]) W'/\Kp W1 W')->
  J [] W->CallsIn F n P g (#[.func (.yield l) #[] #[]]++lb) W fun e W'=>(∃v,e=.returned v)/\J vs W'
theorem jJ{F:Fence}{n:Nat}{P:Program}{g:Operand}{ps:Array Tmp}{assign body:Code}{Q:Exit->Act->World->Prop}{a:Act}{w:World}
  (db:F.round=none) (h1:1<=n) {gf:Nat} {lb:Array Value} (hg:a.eval g=.func (.func gf) #[] lb) (RR:F.fn gf) (eg:∀args w,(callFunc gf args).run P w=.ok (.enter gf args) w)
  {Kp:World->World->Prop} {vs:List Nat} {w0:World} (Lk:aHJ F (n-1) P gf lb vs Kp w0)
  (S:∀{A B C:World},Kp A B->Kp B C->Kp A C) (E:∀(W:World) (l:Nat) (o o':Obj),w.heap.size<=l->W.heap[l]?=some o->o.isCells=false->o.isWalk=false->Kp W (W.putObj l o')) (T:Bl w0 w) (Lc:ps.size=1)
  (I:List Nat->World->Prop) (d:OwnFrom w.heap.size I) (h0:I [] w)
  (Z:∀(l:Nat) (pre:List Nat) (x:Nat) (W:World),I pre W->pre++[x] <+: vs->
   assign.wpIn (F.inRound l) (n-1-1) P (Exit.then (fun a' W'=>W'=W/\∀W2,I pre W2->body.wpIn (F.inRound l) (n-1-1) P (ownPostG w.heap.size Kp I (fun _ _ _=>False) (pre++[x]) W2) a' W2) (fun _ _ _=>False)) {tmps:=(ps.zip #[iV (x:Int)]).foldl (fun t (p,v)=>t.setIfInBounds p v) a.tmps,defers:=[]} W)
  (N:∀(D:Nat) (W:World),w.heap.size<=D->I vs W->W.heap[D]?=some (.deferred (some []))->Q .normal {a with defers:={target:=.collected D,args:=#[]} :: a.defers} W):
  (Code.rangeFunc g ps assign body).wpIn F n P Q a w:=by
 refine wpIn_rangeFunc fun fn qu=>?_;rw[db];obtain⟨D,q⟩:=eZ (w.heap.size);obtain⟨R,b⟩:∃R:LoopState->Option Code->Loop,R=fun st pe=>{state:=st,pending:=pe,fn,tmps:=a.tmps,params:=ps,assign,body,defers:=w.heap.size}:=⟨_,rfl⟩;obtain⟨V,i⟩:=eZ ((w.alloc (.deferred (some []))).alloc (.loop (R .ready none)));have sz:V.heap.size=D+2:=by rw[<-i,<-q];simp
 have H:V.heap[D+1]?=some (.loop (R .ready none)):=by
  have:=World.alloc_heap_new (w.alloc (.deferred (some []))) (.loop (R .ready none))
  rw[World.size_alloc,i,q]at this;exact this
 have G:V.heap[D]?=some (.deferred (some [])):=by
  rw[<-i,<-q];exact(Below.heap_alloc _ _ _ (by simp)).trans (World.alloc_heap_new w _)
 have f:I [] V:=by rw[<-i];exact d.alloc _ (d.alloc _ h0)
 have old:Bl w0 V:=by
  rw[<-i];exact T.trans ((((bQ _ w).alloc (nR _) _).alloc (by simp) _).mono T.size)
 refine⟨D+1,[{target:=.collected D,args:=#[]}],V,{target:=.fn (.func gf) lb,args:=#[.func (.yield (D+1)) #[] #[]]},V,gf,#[.func (.yield (D+1)) #[] #[]]++lb,V,?_,?_,?_,?_,fun _=>h1,?_⟩
 ·rw[<-i,<-q,b];exact run_enterLoop_outer _ _ _ _ _
 ·simp only[resolve,hg];simp[go_sem]
 ·intro f' O;simp[Target.leads]at O;subst O;exact RR
 ·simp[invoke,go_sem,eg]
 rw[q]at d E Z N;have m:AbidesFrom V.heap.size fun pre W=>I pre W/\W.heap[D+1]?=some (.loop (R .ready none))/\W.heap[D]?=some (.deferred (some [])):=fun s X Y L u M k=>
  ⟨d s X Y L u.1 M fun r e=>by obtain⟨hB,o,ho,hw⟩:=k r e;exact⟨by omega,o,ho,Obj.not_cells_of_walk hw⟩,
   (grownBy_keeps M (fun r e=>(k r e).2) u.2.1 rfl).trans u.2.1,(grownBy_keeps M (fun r e=>(k r e).2) u.2.2 rfl).trans u.2.2⟩
 refine(Lk (D+1) _ V old m (fun pre x W hJ mj=>?_) ⟨f,H,G⟩).mono ?_
 ·obtain⟨z,c,J⟩:=hJ
  have ai:D+1<W.heap.size:=(Array.getElem?_eq_some_iff.1 c).1;have K:=run_yield (P:=P) (args:=#[iV (x:Int)]) c (by rw[b];exact Lc.symm);rw[b]at K;refine⟨fn,_,assign,body,K,roundIn_of_wpIn qu (wpIn_mono (Z (D+1) pre x W z mj) ?_)⟩;clear K;rintro e a' W' h;cases e with
  | ret=>exact h
  | exit id=>exact h
  | goto t=>exact h
  | panic ch=>exact h
  | outgrown=>exact h
  | normal=>
  obtain⟨rfl,Ez⟩:=h;refine⟨_,run_beginRound c (by rw[b]),?_⟩;have b2:(W'.putObj (D+1) (.loop {R .ready none with state:=.busy})).heap[D+1]?=some (.loop {R .ready none with state:=.busy}):=World.putObj_heap_same ai;have d2:(W'.putObj (D+1) (.loop {R .ready none with state:=.busy})).heap[D]?=some (.deferred (some [])):=(World.putObj_heap_other (by omega)).trans J;refine wpIn_mono (Ez _ (d.putObj _ z (by omega) c rfl)) ?_;rintro e a3 W3 j;cases e with
  | normal=>
   obtain⟨U,p3,i3⟩:=j;have y:=U.same _ _ (by omega) b2 rfl;have k:=run_endRound (P:=P) none y;rw[b]at k y;refine⟨_,_,k,rfl,⟨d.putObj _ i3 (by omega) y rfl,?_,?_⟩,S (S (E _ _ _ _ (by omega) c rfl rfl) p3) (E _ _ _ _ (by omega) y rfl rfl)⟩
   ·rw[b];exact World.putObj_heap_same (Array.getElem?_eq_some_iff.1 y).1
   ·exact(World.putObj_heap_other (by omega)).trans (U.same _ _ (nR _) d2 rfl)
  | ret=>exact j.2.elim
  | exit id=>exact j.2.elim
  | goto t=>exact j.2.elim
  | panic ch=>exact j.elim
  | outgrown=>exact j.elim
 ·rintro e W2 ⟨⟨v,rfl⟩,z,c,J⟩
  exact⟨none,_,by have:=run_endLoop (P:=P) c (by rw[b];simp);rw[b]at this;exact this,N _ _ (nR _) (d.putObj _ z (by omega) c rfl) ((World.putObj_heap_other (by omega)).trans J)⟩
structure KpC(Bn q:Nat)(a:Option Nat)(W W':World):Prop where
 size:W.heap.size<=W'.heap.size
 bn:W'.heap[Bn]?=W.heap[Bn]?
 q:W'.heap[q]?=W.heap[q]?
 a:∀g,a=some g->W'.heap[g]?=W.heap[g]?
theorem sR(d:Nd):(kids d).length<=d.2.length:=by unfold kids;split<;>simp
theorem KpC.refl(Bn q:Nat)(a:Option Nat)(W:World):KpC Bn q a W W:=⟨nR _,rfl,rfl,fun _ _=>rfl⟩
theorem KpC.trans{A B C:World}(h:KpC Bn q a A B)(k:KpC Bn q a B C):KpC Bn q a A C:=
 ⟨lT h.size k.size,k.bn.trans h.bn,k.q.trans h.q,fun g e=>(k.a g e).trans (h.a g e)⟩
theorem KpC.put{N:Nat}(h1:Bn<N)(h2:q<N)(h3:∀g,a=some g->g<N)(W:World)(l:Nat)(o b:Obj)(c:N<=l)(_ho:W.heap[l]?=some o)(_:o.isCells=false)(_:o.isWalk=false):KpC Bn q a W (W.putObj l b):=
 ⟨by simp[World.putObj],World.putObj_heap_other (by omega),World.putObj_heap_other (by omega),fun g e=>World.putObj_heap_other (by have:=h3 g e;omega)⟩
theorem KpC.grown(h:W.grownBy W' none)(h1:Bn<W.heap.size)(h2:q<W.heap.size)(h3:∀g,a=some g->g<W.heap.size):KpC Bn q a W W':=
 ⟨h.size,h.block Bn h1 (by simp),h.block q h2 (by simp),fun g e=>h.block g (h3 g e) (by simp)⟩
theorem aN.kp{d:Nd}{junk:List E3}(h:aN W q d a junk)(k:KpC Bn q a W W'):aN W' q d a junk:=
 ⟨h.box.of k.q,fun g e=>⟨(h.arr g e).1.of (k.a g e),(h.arr g e).2⟩,h.nil,h.small⟩
theorem wN(F:Fence)(n:Nat)(hg:F.fn 63)(Z:F.round=none)(hn:1<=n)(l Bn q:Nat)(a:Option Nat)(k:Int)(es b:List E3)(gh:es.length<=10)(Q:k=2->∀e∈es,0<=e.2.2)(J:List Nat->World->Prop)(B0:Nat)(hJ:AbidesFrom B0 J)
  (D:∀pre (x:Nat) W,J pre W->pre++[x] <+: kids (k,es)->YieldAt F (n-1) Tryz.prog l #[iV (x:Int)] W fun e W'=>e=.returned (.bool true)/\J (pre++[x]) W'/\KpC Bn q a W W')
  (W:World) (M:IsC W Bn #[pT q 0] 93) (C:aN W q (k,es) a b) (h0:J [] W):
  CallsIn F n Tryz.prog 63 #[.func (.yield l) #[] #[],pT Bn 0] W fun e W'=>(∃v,e=.returned v)/\J (kids (k,es)) W':=by
 have mw:es.length+b.length<=maxLen:=C.small;have V:W.cell? (aD Bn 0)=some (pT q 0):=M.c rfl;have X:W.cell? (aD q 1)=some (.slice (adr a) es.length (es.length+b.length)):=by rw[C.box.cell];rfl
 refine callsIn_of_wp Tryz.func63 rfl hg ?_ Z;simp only[Tryz.ntmps63,List.size_toArray,List.length_cons,List.length_nil,Nat.reduceAdd,Nat.reduceSub,Array.replicate_succ,Array.replicate_zero,List.push_toArray,List.append_toArray,List.nil_append,List.cons_append];gi_wp2;gi_loopw [10] (fun i wr=>∃m:Nat,m<=es.length/\i=iV m/\J ((kids (k,es)).take m) wr/\KpC Bn q a W wr) (fun i _=>es.length -(intOf i).toNat)
 case atStart=>exact⟨0,Nat.zero_le _,rfl,by simpa using h0,KpC.refl _ _ _ _⟩
 case round=>
  obtain⟨m,hm,rfl,w,f⟩:=hrel;have I:IsC wr Bn #[pT q 0] 93:=M.of f.bn;have A:aN wr q (k,es) a b:=C.kp f;have Y:wr.cell? (aD Bn 0)=some (pT q 0):=I.c rfl;have d1:wr.cell? (aD q 0)=some (iV k):=by rw[A.box.cell];rfl
  by_cases d:m<es.length
  ·obtain⟨g,yn,L,Cc⟩:=A.some (by simp;omega)
   subst yn;have E:m <(es++b).length:=by simp;omega
   obtain⟨p,s,t⟩:=bM L E;have O:(es++b).getD m e0=es.getD m e0:=by rw[gD,List.getElem?_append_left d,<-gD]
   simp only at p s t
   rw[O]at p s t;have HX:Hid (m<es.length/\(es.getD m e0).2.2=(es.getD m e0).2.2):=⟨d,rfl⟩;obtain⟨⟨j,o,x⟩,z⟩:∃ek,es.getD m e0=ek:=⟨_,rfl⟩;rw[z]at p s t;have K:Hid (es.getD m e0=(j,o,x)):=z;have hi:(m:Int) <(es.length:Int):=by omega
   have yz:Bn<wr.heap.size:=I.lt;have R:q<wr.heap.size:=A.box.lt;have vm:g<wr.heap.size:=L.lt;have B:wr.grownBy (wr.alloc (.cells #[.string j,.string o,iV x] 130)) none:=World.grownBy_alloc _ _ none;have G:Hid (J ((kids (k,es)).take m) (wr.alloc (.cells #[.string j,.string o,iV x] 130))):=hJ _ _ _ none w B (fun r e=>by cases e);have H:Hid (KpC Bn q (some g) wr (wr.alloc (.cells #[.string j,.string o,iV x] 130))):=KpC.grown B yz R (fun g' e=>by cases e;exact vm);clear V X O z B w;simp only[adr,Option.map_some]at *;by_cases u:k=2
   ·subst u
    have U:(j,o,x)∈es:=by rw[<-K.out,gD,gE d];exact List.getElem_mem _
    obtain⟨y,rfl⟩:∃y:Nat,x=(y:Int):=⟨x.toNat,by have:=Q rfl _ U;simp only at this;omega⟩;have c:Hid ((kids (2,es)).take m++[y]=(kids (2,es)).take (m+1)):=by
     have hx:(kids (2,es))[m]?=some y:=by
      have:=K.out
      rw[gD,gE d]at this;simp only[Option.getD_some]at this;simp[kids,gE d,this,ch]
     show _=_
     rw[List.take_add_one,hx];rfl
    obtain⟨fn,tmps,assign,body,hy,N⟩:=D _ y _ G.out (by rw[c.out];exact List.take_prefix _ _);clear D;have S:=aA f;clear f;gi_wp2;refine N.mono ?_;rintro e W3 ⟨rfl,P,T⟩;rw[c.out]at P;clear Y d1 p s t hy N;gi_wp2;go_roundw
    case rel=>exact⟨m+1,by omega,by go_num,P,(S.out.trans H.out).trans T⟩
    case measure=>simp[intOf];omega
   ·have ZK:(k == 2)=false:=by simpa using u
    have c:Hid ((kids (k,es)).take (m+1)=(kids (k,es)).take m):=by
     show _=_
     simp[kids,u]
    clear D;gi_wp2;refine⟨fun _ h=>(by cases h),?_⟩;gi_wp2;go_roundw
    case rel=>exact⟨m+1,by omega,by go_num,by rw[c.out];exact G.out,f.trans H.out⟩
    case measure=>simp[intOf];omega
  ·obtain rfl:m=es.length:=by omega
   have c:Hid ((kids (k,es)).take es.length=kids (k,es)):=List.take_of_length_le (sR (k,es));gi_wp2;go_end0;exact⟨⟨_,rfl⟩,by rw[<-c.out];exact w⟩
theorem kU(F:Fence)(n:Nat)(b:F.fn 38)(a:F.round=none)(p:Addr)(w:World):
  CallsIn F n Tryz.prog 38 #[.pointer (some p)] w fun e w'=>e=.returned (.func (.func 63) #[] #[pT w.heap.size 0])/\w'=w.alloc (.cells #[.pointer (some p)] 93):=by
 refine callsIn_of_wp Tryz.func38 rfl b ?_ a;simp only[Tryz.ntmps38,List.size_toArray,List.length_cons,List.length_nil,Nat.reduceAdd,Nat.reduceSub,Array.replicate_succ,Array.replicate_zero,List.push_toArray,List.append_toArray,List.nil_append,List.cons_append];gi_wp2;go_ret;exact⟨rfl,rfl⟩
theorem jT(F:Fence)(n:Nat)(p:F.fn 63)(h:F.round=none)(hn:1<=n)(Bn q:Nat)(d:Nd)(a:Option Nat)(b:List E3)(i:d.2.length<=10)(g:d.1=2->∀e∈d.2,0<=e.2.2)(w:World)
  (c:IsC w Bn #[pT q 0] 93) (m:aN w q d a b):
  aHJ F n Tryz.prog 63 #[pT Bn 0] (kids d) (KpC Bn q a) w:=fun l J W f k o j=>
 wN F n p h hn l Bn q a d.1 d.2 b i g J _ k o W (c.of (f.block _ c.lt)) (m.below f) j
