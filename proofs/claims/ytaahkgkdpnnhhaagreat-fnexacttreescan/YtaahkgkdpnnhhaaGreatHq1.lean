import Derived.Test.YtaahkgkdpnnhhaaGreatHp6
set_option maxHeartbeats 9999999
set_option maxRecDepth 99999
set_option linter.all false
namespace Go.Proofs.YtaahkgkdpnnhhaaGreat
open Go.RowKit Fo
def aT(t:Int×Int):List Value:=[.int .i64 t.1,.int .i64 t.2]
def cS(l:List (Int×Int)):Array Value:=(l.flatMap aT).toArray
theorem bL(l:List (Int×Int)):(l.flatMap aT).length=l.length*2:=by
 induction l with
 | nil=>rfl
 | cons e es ih=>simp only[List.flatMap_cons,lP,ih,List.length_cons];simp[aT];omega
theorem lE(l:List (Int×Int)){i:Nat}(hi:i<l.length):(cS l)[i*2]?=some (.int .i64 (l.getD i (0,0)).1)∧(cS l)[i*2+1]?=some (.int .i64 (l.getD i (0,0)).2):=by
 unfold cS;rw[List.getElem?_toArray,List.getElem?_toArray];induction l generalizing i with
 | nil=>simp at hi
 | cons e es ih=>
  cases i with
  | zero=>simp[aT]
  | succ i=>
   have:=ih (i:=i) (by simpa using hi)
   have e1:(e :: es).flatMap aT=aT e++es.flatMap aT:=List.flatMap_cons;have l3:(aT e).length=2:=rfl;rw[e1];rw[List.getElem?_append_right (by rw[l3];omega),List.getElem?_append_right (by rw[l3];omega),l3];rw[show(i+1)*2-2=i*2 by omega,show(i+1)*2+1-2=i*2+1 by omega];simpa using this
def cE(b:Nat):Nat:=10+4*b
def cB(b:Nat):Nat:=11+4*b
def kC(i:Nat):Nat:=12+4*i
def kD(i:Nat):Nat:=13+4*i
def isJ(r:Nat):Prop:=r=6∨(12≤r∧r % 4<2)
def isN(r:Nat):Prop:=r≠0∧¬isJ r
structure Adr where
 ra:Nat
 rj:List (Int×Int)
 m:Nat
 c:Nat
 d:Nat
 dj:List Value
 tv:Value
 φ:Nat→Option Nat
 α:Nat→Option Nat
def jG(c:List Int)(dj:List Value):Array Value:=(c.map (Value.int .i64)++dj).toArray
def dC(A:Adr)(f:fZ)(jv:Value):Array Value:=#[.slice (some ⟨A.ra,0,none⟩) f.roots.length (f.roots.length+A.rj.length),.int .i64 f.next,.int .i64 f.gen,.map (some A.m),.slice (some ⟨A.c,0,none⟩) f.cur.length f.cur.length,.slice (some ⟨A.d,0,none⟩) f.com.length (f.com.length+A.dj.length),A.tv,jv]
def Nod(w:World)(ρ:Nat→Nat)(A:Adr)(b:Nat)(d:Nd):Prop:=
 ∃q,A.φ b=some q∧ρ q=cE b∧(∀g,A.α b=some g→ρ g=cB b)∧∃junk,aK w q d (A.α b) junk
structure Rp(w:World)(ρ:Nat→Nat)(P:Nat)(A:Adr)(f:fZ)(jv:Value):Prop where
 own:∀k,ρ k≠0→k<w.heap.size
 hP:IsC w P (dC A f jv) 71
 rP:ρ P=1
 hr:IsC w A.ra (cS (f.roots++A.rj)) 77
 rr:ρ A.ra=2
 hm:dP w A.m A.φ
 rm:ρ A.m=3
 hc:IsC w A.c (dD f.cur) 2
 rc:ρ A.c=4
 hd:IsC w A.d (jG f.com A.dj) 2
 rd:ρ A.d=5
 nd:∀b d,f.nodes b=some d→Nod w ρ A b d
 no:∀b,f.nodes b=none→A.φ b=none
 rs:f.roots.length+A.rj.length≤maxLen
 ds:f.com.length+A.dj.length≤maxLen
structure Kp(S:Nat→Prop)(w:World)(ρ:Nat→Nat)(w':World)(ρ':Nat→Nat):Prop where
 frm:Frm S w w'
 rol:∀x,x<w.heap.size→isN (ρ x)→ρ' x=ρ x
 own:∀x,ρ' x≠0→x<w'.heap.size
theorem uX:isN 1:=by unfold isN isJ;omega
theorem aCU:isN 2:=by unfold isN isJ;omega
theorem uY:isN 3:=by unfold isN isJ;omega
theorem aCV:isN 4:=by unfold isN isJ;omega
theorem aGX:isN 5:=by unfold isN isJ;omega
theorem wM(b:Nat):isN (cE b):=by unfold isN isJ cE;omega
theorem wN(b:Nat):isN (cB b):=by unfold isN isJ cB;omega
theorem aGW:isJ 6:=by unfold isJ;omega
theorem qL(i:Nat):isJ (kC i):=by unfold isJ kC;omega
theorem qM(i:Nat):isJ (kD i):=by unfold isJ kD;omega
variable {w w' : World} {ρ ρ' : Nat → Nat} {P : Nat} {A : Adr} {f : fZ} {jv : Value} {S : Nat → Prop}
theorem Nod.kp(k:Kp S w ρ w' ρ'){b:Nat}{d:Nd}(h:Nod w ρ A b d)(hb:∀x,ρ x=cE b∨ρ x=cB b→¬S x)(ho:∀x,ρ x≠0→x<w.heap.size):Nod w' ρ' A b d:=by
 obtain⟨q,h1,h2,h3,j,h4⟩:=h;have hq:q<w.heap.size:=h4.box.lt;refine⟨q,h1,by rw[k.rol q hq (h2▸wM b),h2],fun g e=>?_,j,h4.frm k.frm (hb q (.inl h2)) fun g e=>hb g (.inr (h3 g e))⟩;have:=h3 g e;rw[k.rol g (ho g (by rw[this];unfold cB;omega)) (this▸wN b),this]
theorem Rp.gen(h:Rp w ρ P A f jv)(k:Kp S w ρ w' ρ'){A':Adr}{f':fZ}{jv':Value}
  (hP:(¬S P∧dC A' f' jv'=dC A f jv)∨IsC w' P (dC A' f' jv') 71)
  (hr:(¬S A.ra∧A'.ra=A.ra∧f'.roots++A'.rj=f.roots++A.rj)∨(IsC w' A'.ra (cS (f'.roots++A'.rj)) 77∧ρ' A'.ra=2))
  (hm:(¬S A.m∧A'.φ=A.φ)∨dP w' A.m A'.φ) (em:A'.m=A.m)
  (hc:(¬S A.c∧f'.cur=f.cur)∨IsC w' A.c (dD f'.cur) 2) (ec:A'.c=A.c)
  (hd:(¬S A.d∧A'.d=A.d∧jG f'.com A'.dj=jG f.com A.dj)∨(IsC w' A'.d (jG f'.com A'.dj) 2∧ρ' A'.d=5))
  (nd:∀b d,f'.nodes b=some d→(f.nodes b=some d∧A'.φ b=A.φ b∧A'.α b=A.α b∧∀x,ρ x=cE b∨ρ x=cB b→¬S x)∨Nod w' ρ' A' b d)
  (no:∀b,f'.nodes b=none→A'.φ b=none) (rs:f'.roots.length+A'.rj.length≤maxLen) (ds:f'.com.length+A'.dj.length≤maxLen):Rp w' ρ' P A' f' jv':=by
 have rol:∀{x r},ρ x=r→isN r→ρ' x=r:=fun {x r} e hr=>by
  rw[k.rol x (h.own x (by rw[e];exact hr.1)) (e▸hr),e]
 have ob:=h.own;refine⟨k.own,?_,rol h.rP uX,?_,?_,?_,by rw[em];exact rol h.rm uY,?_,by rw[ec];exact rol h.rc aCV,?_,?_,?_,no,rs,ds⟩
 ·rcases hP with⟨h1,h2⟩ | h1
  ·rw[h2];exact h.hP.frm k.frm h1
  ·exact h1
 ·rcases hr with⟨h1,h2,h3⟩ | h1
  ·rw[h2,h3];exact h.hr.frm k.frm h1
  ·exact h1.1
 ·rcases hr with⟨h1,h2,h3⟩ | h1
  ·rw[h2];exact rol h.rr aCU
  ·exact h1.2
 ·rcases hm with⟨h1,h2⟩ | h1
  ·rw[em,h2];exact h.hm.of (k.frm.block _ h.hm.lt h1)
  ·rw[em];exact h1
 ·rcases hc with⟨h1,h2⟩ | h1
  ·rw[ec,h2];exact h.hc.frm k.frm h1
  ·rw[ec];exact h1
 ·rcases hd with⟨h1,h2,h3⟩ | h1
  ·rw[h2,h3];exact h.hd.frm k.frm h1
  ·exact h1.1
 ·rcases hd with⟨h1,h2,h3⟩ | h1
  ·rw[h2];exact rol h.rd aGX
  ·exact h1.2
 ·intro b d hb
  rcases nd b d hb with⟨h1,h2,h3,h4⟩ | h1
  ·have:=(h.nd b d h1).kp k h4 ob
   unfold Nod at *;rw[h2,h3];exact this
  ·exact h1
theorem Rp.frm(h:Rp w ρ P A f jv)(k:Kp S w ρ w' ρ')(hS:∀x,x<w.heap.size→S x→¬isN (ρ x)):Rp w' ρ' P A f jv:=by
 have no:∀{x r},ρ x=r→isN r→¬S x:=fun {x r} e hr hs=>hS x (h.own x (by rw[e];exact hr.1)) hs (e▸hr);refine h.gen k (.inl ⟨no h.rP uX,rfl⟩) (.inl ⟨no h.rr aCU,rfl,rfl⟩) (.inl ⟨no h.rm uY,rfl⟩) rfl (.inl ⟨no h.rc aCV,rfl⟩) rfl (.inl ⟨no h.rd aGX,rfl,rfl⟩) (fun b d hb=>.inl ⟨hb,rfl,rfl,fun x hx=>?_⟩) h.no h.rs h.ds;rcases hx with e | e
 ·exact no e (wM b)
 ·exact no e (wN b)
structure JrL(w:World)(ρ:Nat→Nat)(ja:Option Nat)(jp jj:List JE)(J:List aQ):Prop where
 arr:∀g,ja=some g→IsC w g (iP (jp++jj)) 187∧ρ g=6
 nil:ja=none→jp=[]∧jj=[]
 small:jp.length+jj.length≤maxLen
 len:jp.length=J.length
 row:∀i,i<J.length→(jp.getD i j0).1=((J.getD i jr0).1:Int)∧(jp.getD i j0).2.1=(J.getD i jr0).2.1∧
  (match (J.getD i jr0).2.2 with
  | none=>(jp.getD i j0).2.2=none
  | some d=>∃q a junk,(jp.getD i j0).2.2=some q∧ρ q=kC i∧(∀g,a=some g→ρ g=kD i)∧aK w q d a junk)
theorem JrL.start(w:World)(ρ:Nat→Nat):JrL w ρ none [] [] []:=⟨fun g e=>(by cases e),fun _=>⟨rfl,rfl⟩,by simp[maxLen],rfl,fun i hi=>(by simp at hi)⟩
theorem JrL.frm{ja:Option Nat}{jp jj:List JE}{J:List aQ}(h:JrL w ρ ja jp jj J)(k:Frm S w w')(ho:∀x,ρ x≠0→x<w.heap.size)(hS:∀x,S x→¬isJ (ρ x))(hρ:∀x,x<w.heap.size→isJ (ρ x)→ρ' x=ρ x):JrL w' ρ' ja jp jj J:=by
 have no:∀{x r},ρ x=r→isJ r→¬S x:=fun {x r} e hr hs=>hS x hs (e▸hr);have rol:∀{x r},ρ x=r→isJ r→ρ' x=r:=fun {x r} e hr=>by
  rw[hρ x (ho x (by rw[e];intro q;subst q;unfold isJ at hr;omega)) (e▸hr),e]
 refine⟨fun g e=>?_,h.nil,h.small,h.len,fun i hi=>?_⟩
 ·obtain⟨h1,h2⟩:=h.arr g e
  exact⟨h1.frm k (no h2 aGW),rol h2 aGW⟩
 ·obtain⟨h1,h2,h3⟩:=h.row i hi
  refine⟨h1,h2,?_⟩;cases e:(J.getD i jr0).2.2 with
  | none=>rw[e]at h3;exact h3
  | some d=>
   rw[e]at h3;obtain⟨q,a,junk,k1,k2,k3,k4⟩:=h3;exact⟨q,a,junk,k1,rol k2 (qL i),fun g e=>rol (k3 g e) (qM i),k4.frm k (no k2 (qL i)) fun g e=>no (k3 g e) (qM i)⟩
def Jr(w:World)(ρ:Nat→Nat)(ja:Option Nat)(jp jj:List JE)(J:List aQ):Prop:=J.length≤900001→JrL w ρ ja jp jj J
theorem Jr.frm{ja:Option Nat}{jp jj:List JE}{J:List aQ}(h:Jr w ρ ja jp jj J)(k:Frm S w w')(ho:∀x,ρ x≠0→x<w.heap.size)(hS:∀x,S x→¬isJ (ρ x))(hρ:∀x,x<w.heap.size→isJ (ρ x)→ρ' x=ρ x):Jr w' ρ' ja jp jj J:=fun hl=>(h hl).frm k ho hS hρ
def fN:List aQ:=List.replicate 1000000 jr0
theorem uR:¬fN.length≤900001:=by unfold fN;rw[List.length_replicate];omega
def aGZ(ja:Option Nat)(jp jj:List JE):Value:=.slice (adr ja) jp.length (jp.length+jj.length)
def St(w:World)(ρ:Nat→Nat)(P:Nat)(A:Adr)(f:fZ)(J:List aQ):Prop:=
 ∃ja jp jj,Rp w ρ P A f (aGZ ja jp jj)∧Jr w ρ ja jp jj J
structure Mv(X:Nat→Prop)(w:World)(ρ:Nat→Nat)(w':World)(ρ':Nat→Nat):Prop where
 frm:Frm (fun k=>ρ k≠0∨X k) w w'
 rol:∀x,x<w.heap.size→¬X x→ρ' x=ρ x
theorem Mv.refl(X:Nat→Prop)(w:World)(ρ:Nat→Nat):Mv X w ρ w ρ:=⟨Frm.refl _ _,fun _ _ _=>rfl⟩
theorem Mv.trans{X:Nat→Prop}{w1 w2 w3:World}{ρ1 ρ2 ρ3:Nat→Nat}(a:Mv X w1 ρ1 w2 ρ2){Y:Nat→Prop}(b:Mv Y w2 ρ2 w3 ρ3)(hY:∀x,x<w1.heap.size→Y x→X x):Mv X w1 ρ1 w3 ρ3:=by
 refine⟨a.frm.next b.frm fun x hx h=>?_,fun x hx hn=>?_⟩
 ·by_cases e:X x
  ·exact .inr e
  ·rcases h with h | h
   ·left;rw[←a.rol x hx e];exact h
   ·exact .inr (hY x hx h)
 ·rw[b.rol x (lL hx a.frm.size) (fun q=>hn (hY x hx q)),a.rol x hx hn]
theorem Mv.up{X Y:Nat→Prop}(a:Mv X w ρ w' ρ')(h:∀x,x<w.heap.size→X x→Y x):Mv Y w ρ w' ρ':=
 ⟨a.frm.wide fun k hk h'=>h'.imp id (h k hk),fun x hx hn=>a.rol x hx fun q=>hn (h x hx q)⟩
end Go.Proofs.YtaahkgkdpnnhhaaGreat
namespace Go.Proofs.YtaahkgkdpnnhhaaGreat
open Go.RowKit Fo
theorem aEE(zs:List Int)(i:Nat)(v:Int):(dD zs).setIfInBounds i (.int .i64 v)=dD (zs.set i v):=by
 simp[dD,List.map_set]
variable {w w' : World} {ρ ρ' : Nat → Nat} {P : Nat} {A : Adr} {f : fZ} {J : List aQ} {S : Nat → Prop} {jv : Value}
theorem St.of{A':Adr}{f':fZ}(h:St w ρ P A f J)(k:Frm S w w')(hS:∀x,S x→¬isJ (ρ x))(hρ:∀x,x<w.heap.size→isJ (ρ x)→ρ' x=ρ x)(hR:∀jv,Rp w ρ P A f jv→Rp w' ρ' P A' f' jv):St w' ρ' P A' f' J:=by
 obtain⟨ja,jp,jj,h1,h2⟩:=h;exact⟨ja,jp,jj,hR _ h1,h2.frm k h1.own hS hρ⟩
theorem aBA(b:Nat):¬isJ (cE b):=(wM b).2
theorem aBB(b:Nat):¬isJ (cB b):=(wN b).2
theorem aCT:¬isJ 0:=by unfold isJ;omega
theorem Kp.same(h:Rp w ρ P A f jv)(k:Frm S w w'):Kp S w ρ w' ρ:=⟨k,fun _ _ _=>rfl,fun x hx=>lL (h.own x hx) k.size⟩
theorem St.frm(h:St w ρ P A f J)(k:Frm (fun x=>ρ x=0) w w'):St w' ρ P A f J:=
 h.of k (fun x e=>by rw[e];exact aCT) (fun _ _ _=>rfl) fun jv hR=>hR.frm (Kp.same hR k) fun x _ e q=>q.1 e
theorem St.below(h:St w ρ P A f J)(k:Bl w w'):St w' ρ P A f J:=h.frm (Frm.of_below k)
theorem St.setC(h:St w ρ P A f J){b:Nat}(hb:b<f.cur.length)(v:Int):St (w.setCell ⟨A.c,b,none⟩ (.int .i64 v)) ρ P A (setC f b v) J∧Mv (fun _=>False) w ρ (w.setCell ⟨A.c,b,none⟩ (.int .i64 v)) ρ:=by
 have hc:ρ A.c=4:=by obtain⟨_,_,_,h1,_⟩:=h;exact h1.rc
 have k:Frm (fun x=>x=A.c) w (w.setCell ⟨A.c,b,none⟩ (.int .i64 v)):=Frm.set (S:=fun x=>x=A.c) w (p:=⟨A.c,b,none⟩) rfl _;refine⟨h.of k (fun x e=>by rw[e,hc];exact aCV.2) (fun _ _ _=>rfl) fun jv hR=>?_,k.wide (fun x _ e=>.inl (by rw[e,hc];omega)),fun _ _ _=>rfl⟩;have no:∀{x r},ρ x=r→r≠4→¬x=A.c:=fun {x r} e hr q=>hr (by rw[←e,q,hc]);refine hR.gen (Kp.same hR k) (.inl ⟨no hR.rP (by omega),?_⟩) (.inl ⟨no hR.rr (by omega),rfl,rfl⟩) (.inl ⟨no hR.rm (by omega),rfl⟩) rfl (.inr ?_) rfl (.inl ⟨no hR.rd (by omega),rfl,rfl⟩) (fun x d hx=>.inl ⟨hx,rfl,rfl,fun y hy=>?_⟩) hR.no hR.rs hR.ds
 ·simp[dC,Fo.setC]
 ·have:=hR.hc.set b (.int .i64 v)
  rw[aEE]at this;exact this
 ·rcases hy with e | e
  ·exact no e (by unfold cE;omega)
  ·exact no e (by unfold cB;omega)
def noN(f:fZ)(b:Nat):fZ:={f with nodes:=upd f.nodes b none}
def gP(A:Adr)(b:Nat):Adr:={A with φ:=upd A.φ b none}
def cV(A:Adr)(b q:Nat)(a:Option Nat):Adr:={A with φ:=upd A.φ b (some q),α:=upd A.α b a}
def dL(A:Adr)(b:Nat)(a:Option Nat):Adr:={A with α:=upd A.α b a}
theorem St.del(h:St w ρ P A f J){b:Nat}(hM:dP w' A.m (upd A.φ b none))(k:Frm (fun x=>x=A.m) w w'):St w' ρ P (gP A b) (noN f b) J∧Mv (fun _=>False) w ρ w' ρ:=by
 have hc:ρ A.m=3:=by obtain⟨_,_,_,h1,_⟩:=h;exact h1.rm
 refine⟨h.of k (fun x e=>by rw[e,hc];exact uY.2) (fun _ _ _=>rfl) fun jv hR=>?_,k.wide (fun x _ e=>.inl (by rw[e,hc];omega)),fun _ _ _=>rfl⟩;have no:∀{x r},ρ x=r→r≠3→¬x=A.m:=fun {x r} e hr q=>hr (by rw[←e,q,hc]);refine hR.gen (A':=gP A b) (f':=noN f b) (Kp.same hR k) (.inl ⟨no hR.rP (by omega),rfl⟩) (.inl ⟨no hR.rr (by omega),rfl,rfl⟩) (.inr hM) rfl (.inl ⟨no hR.rc (by omega),rfl⟩) rfl (.inl ⟨no hR.rd (by omega),rfl,rfl⟩) (fun x d hx=>.inl ?_) (fun x hx=>?_) hR.rs hR.ds
 ·have bq:upd f.nodes b none x=some d:=hx
  by_cases e:x=b
  ·subst e;rw[aD]at bq;cases bq
  ·rw[aC _ _ e]at bq
   refine⟨bq,aC _ _ e,rfl,fun y hy=>?_⟩;rcases hy with e | e
   ·exact no e (by unfold cE;omega)
   ·exact no e (by unfold cB;omega)
 ·show upd A.φ b none x=none
  by_cases e:x=b
  ·rw[e,aD]
  ·rw[aC _ _ e]
   exact hR.no x (by have bq:upd f.nodes b none x=none:=hx;rwa [aC _ _ e]at bq)
def uJ(ρ:Nat→Nat)(q:Nat)(a:Option Nat)(b:Nat):Nat→Nat:=fun k=>if k=q then cE b else if a=some k then cB b else ρ k
def jA(ρ:Nat→Nat)(a:Option Nat)(b:Nat):Nat→Nat:=fun k=>if a=some k then cB b else ρ k
theorem xG{q:Nat}{a:Option Nat}{b x:Nat}(h:x≠q)(h':a≠some x):uJ ρ q a b x=ρ x:=by simp[uJ,h,h']
theorem xF{a:Option Nat}{b x:Nat}(h':a≠some x):jA ρ a b x=ρ x:=by simp[jA,h']
theorem St.put(h:St w ρ P A f J){b q:Nat}{d:Nd}{a:Option Nat}{junk:List E3}(hN:aK w q d a junk)(hq:ρ q=0)(ha:∀g,a=some g→ρ g=0)(hM:dP w' A.m (upd A.φ b (some q)))(k:Frm (fun x=>x=A.m) w w'):
  St w' (uJ ρ q a b) P (cV A b q a) (setN f b d) J∧Mv (fun x=>x=q∨a=some x) w ρ w' (uJ ρ q a b):=by
 have hc:ρ A.m=3:=by obtain⟨_,_,_,h1,_⟩:=h;exact h1.rm
 have nn:∀x,ρ x≠0→uJ ρ q a b x=ρ x:=fun x hx=>xG (fun e=>hx (e▸hq)) (fun e=>hx (ha x e));have LD:q≠A.m:=fun e=>by rw[e,hc]at hq;omega
 have WN:∀g,a=some g→g≠A.m:=fun g e e'=>by have:=ha g e;rw[e',hc]at this;omega
 refine⟨h.of k (fun x e=>by rw[e,hc];exact uY.2) (fun x _ e=>nn x fun q=>aCT (q▸e)) fun jv hR=>?_,k.wide (fun x _ e=>.inl (by rw[e,hc];omega)),fun x _ e=>xG (fun q=>e (.inl q)) fun q=>e (.inr q)⟩;have no:∀{x r},ρ x=r→r≠3→¬x=A.m:=fun {x r} e hr q=>hr (by rw[←e,q,hc]);have hK:Kp (fun x=>x=A.m) w ρ w' (uJ ρ q a b):=⟨k,fun x _ e=>nn x e.1,fun x hx=>by
  by_cases e1:x=q
  ·rw[e1];exact lL hN.box.lt k.size
  ·by_cases e2:a=some x
   ·exact lL (hN.arr x e2).1.lt k.size
   ·rw[xG e1 e2]at hx;exact lL (hR.own x hx) k.size⟩
 refine hR.gen (A':=cV A b q a) (f':=setN f b d) hK (.inl ⟨no hR.rP (by omega),rfl⟩) (.inl ⟨no hR.rr (by omega),rfl,rfl⟩) (.inr hM) rfl (.inl ⟨no hR.rc (by omega),rfl⟩) rfl (.inl ⟨no hR.rd (by omega),rfl,rfl⟩) (fun x d' hx=>?_) (fun x hx=>?_) hR.rs hR.ds
 ·have bq:upd f.nodes b (some d) x=some d':=hx
  by_cases e:x=b
  ·subst e
   rw[aD]at bq;cases bq;refine .inr ⟨q,aD _ _ _,by simp[uJ],fun g e=>?_,junk,?_⟩
   ·have e':a=some g:=by rw[←e];exact(aD _ _ _).symm
    have:g≠q:=(hN.arr g e').2
    simp[uJ,this,e']
   ·rw[show(cV A x q a).α x=a from aD _ _ _]
    exact hN.frm k LD WN
  ·rw[aC _ _ e]at bq
   refine .inl ⟨bq,aC _ _ e,aC _ _ e,fun y hy=>?_⟩;rcases hy with e | e
   ·exact no e (by unfold cE;omega)
   ·exact no e (by unfold cB;omega)
 ·show upd A.φ b (some q) x=none
  have bq:upd f.nodes b (some d) x=none:=hx;by_cases e:x=b
  ·subst e;rw[aD]at bq;cases bq
  ·rw[aC _ _ e]at bq ⊢;exact hR.no x bq
theorem St.node(h:St w ρ P A f J){b q:Nat}{d d':Nd}(hb:f.nodes b=some d)(hφ:A.φ b=some q){a':Option Nat}{junk':List E3}(k:Frm (fun x=>x=q∨A.α b=some x) w w')(hN:aK w' q d' a' junk')(ha:∀g,a'=some g→A.α b=some g∨w.heap.size≤g):
  St w' (jA ρ a' b) P (dL A b a') (setN f b d') J∧Mv (fun _=>False) w ρ w' (jA ρ a' b):=by
 have c9:ρ q=cE b∧(∀g,A.α b=some g→ρ g=cB b):=by
  obtain⟨_,_,_,h1,_⟩:=h;obtain⟨q',e1,e2,e3,_⟩:=h1.nd b d hb;rw[hφ]at e1;cases e1;exact⟨e2,e3⟩
 have ap:∀x,ρ x≠0→x<w.heap.size:=by obtain⟨_,_,_,h1,_⟩:=h;exact h1.own
 have nn:∀x,x<w.heap.size→jA ρ a' b x=ρ x:=fun x hx=>by
  by_cases e:a'=some x
  ·rcases ha x e with e' | e'
   ·simp only[jA,e,if_true];exact(c9.2 x e').symm
   ·omega
  ·exact xF e
 have hS:∀x,x=q∨A.α b=some x→ρ x=cE b∨ρ x=cB b:=fun x e=>by
  rcases e with e | e
  ·left;rw[e];exact c9.1
  ·right;exact c9.2 x e
 have hq:q<w.heap.size:=ap q (by rw[c9.1];unfold cE;omega);refine⟨h.of k (fun x e=>?_) (fun x hx _=>nn x hx) fun jv hR=>?_,k.wide (fun x _ e=>.inl ?_),fun x hx _=>nn x hx⟩
 ·rcases hS x e with e | e<;>rw[e]
  ·exact aBA b
  ·exact aBB b
 ·have no:∀{x r},ρ x=r→r≠cE b→r≠cB b→¬(x=q∨A.α b=some x):=fun {x r} e h1 h2 q=>by
   rcases hS x q with e' | e'
   ·exact h1 (e.symm.trans e')
   ·exact h2 (e.symm.trans e')
  have hK:Kp (fun x=>x=q∨A.α b=some x) w ρ w' (jA ρ a' b):=⟨k,fun x hx e=>nn x hx,fun x hx=>by
   by_cases e:a'=some x
   ·exact(hN.arr x e).1.lt
   ·rw[xF e]at hx;exact lL (ap x hx) k.size⟩
  have u1:1≠cE b∧1≠cB b:=by unfold cE cB;omega
  have u2:2≠cE b∧2≠cB b:=by unfold cE cB;omega
  have u3:3≠cE b∧3≠cB b:=by unfold cE cB;omega
  have u4:4≠cE b∧4≠cB b:=by unfold cE cB;omega
  have u5:5≠cE b∧5≠cB b:=by unfold cE cB;omega
  refine hR.gen (A':=dL A b a') (f':=setN f b d') hK (.inl ⟨no hR.rP u1.1 u1.2,rfl⟩) (.inl ⟨no hR.rr u2.1 u2.2,rfl,rfl⟩) (.inl ⟨no hR.rm u3.1 u3.2,rfl⟩) rfl (.inl ⟨no hR.rc u4.1 u4.2,rfl⟩) rfl (.inl ⟨no hR.rd u5.1 u5.2,rfl,rfl⟩) (fun x d2 hx=>?_) (fun x hx=>?_) hR.rs hR.ds
  ·have bq:upd f.nodes b (some d') x=some d2:=hx
   by_cases e:x=b
   ·subst e
    rw[aD]at bq;cases bq;refine .inr ⟨q,hφ,by rw[nn q hq];exact c9.1,fun g e=>?_,junk',?_⟩
    ·have e':a'=some g:=by rw[←e];exact(aD _ _ _).symm
     simp[jA,e']
    ·rw[show(dL A x a').α x=a' from aD _ _ _]
     exact hN
   ·rw[aC _ _ e]at bq
    refine .inl ⟨bq,rfl,aC _ _ e,fun y hy=>?_⟩;rcases hy with e2 | e2
    ·exact no e2 (by unfold cE;omega) (by unfold cE cB;omega)
    ·exact no e2 (by unfold cE cB;omega) (by unfold cB;omega)
  ·have bq:upd f.nodes b (some d') x=none:=hx
   by_cases e:x=b
   ·subst e;rw[aD]at bq;cases bq
   ·rw[aC _ _ e]at bq;exact hR.no x bq
 ·rcases hS x e with e | e<;>rw[e]
  ·unfold cE;omega
  ·unfold cB;omega
end Go.Proofs.YtaahkgkdpnnhhaaGreat
namespace Go.Proofs.YtaahkgkdpnnhhaaGreat
open Go.RowKit Fo
variable{A:Adr}{K v:Int}{zs:List Int}{dj:List Value}{P b c:Nat}{ρ:Nat→Nat}{jv:Value}{w:World}{f:fZ}
theorem IsC.ne{g g':Nat}{cs cs':Array Value}{t t':TypeId}(h:IsC w g cs t)(h':IsC w g' cs' t')(ht:t≠t'):g≠g':=fun e=>by
 subst e;unfold IsC at h h';rw[h]at h';simp only[sJ,Obj.cells.injEq]at h';exact ht h'.2.1
structure Sz(K:Int)(f:fZ):Prop where
 n512:f.cur.length≤512
 n8:8≤f.cur.length
 com:f.com.length=f.cur.length
 ent:∀b d,f.nodes b=some d→d.2.length≤10
 lt:∀b d,f.nodes b=some d→b<f.cur.length
 cb:∀i,0≤cu f i∧cu f i≤K
 mb:∀i,0≤co f i∧co f i≤1000000
theorem Sz.of{f':fZ}(h:Sz K f)(h1:f'.cur.length=f.cur.length)(h2:f'.com=f.com)(h4:∀i,0≤cu f' i∧cu f' i≤K)(h3:∀b d,f'.nodes b=some d→(f.nodes b=some d)∨(b<f.cur.length∧d.2.length≤10)):Sz K f':=by
 refine⟨by rw[h1];exact h.n512,by rw[h1];exact h.n8,by rw[h1,h2];exact h.com,fun b d hb=>?_,fun b d hb=>?_,h4,by unfold co;rw[h2];exact h.mb⟩
 ·rcases h3 b d hb with q | q
  ·exact h.ent b d q
  ·exact q.2
 ·rw[h1]
  rcases h3 b d hb with q | q
  ·exact h.lt b d q
  ·exact q.1
theorem Sz.up{L:Int}(h:Sz K f)(hK:K≤L):Sz L f:={h with cb:=fun i=>⟨(h.cb i).1,Int.le_trans (h.cb i).2 hK⟩}
theorem aLL(h:∀i,0≤cu f i∧cu f i≤K)(b:Nat)(h0:0≤v)(hK:v≤K)(i:Nat):0≤(f.cur.set b v).getD i 0∧(f.cur.set b v).getD i 0≤K:=by
 rw[gD,List.getElem?_set];have:=h i;unfold cu at this;rw[gD]at this;split
 ·split
  ·exact⟨h0,hK⟩
  ·simp only[Option.getD_none];exact⟨by omega,by have:=h b;omega⟩
 ·exact this
theorem Sz.setC(h:Sz K f)(b:Nat)(h0:0≤v)(hK:v≤K):Sz K (setC f b v):=h.of (by simp[Fo.setC]) rfl (aLL h.cb b h0 hK) fun _ _ q=>.inl q
theorem Sz.noN(h:Sz K f)(b:Nat):Sz K (noN f b):=h.of rfl rfl h.cb fun x d q=>by
 have q':upd f.nodes b none x=some d:=q;by_cases e:x=b
 ·rw[e,aD]at q';cases q'
 ·rw[aC _ _ e]at q';exact .inl q'
theorem Sz.setN(h:Sz K f)(hb:b<f.cur.length){d:Nd}(hd:d.2.length≤10):Sz K (setN f b d):=h.of rfl rfl h.cb fun x e q=>by
 have q':upd f.nodes b (some d) x=some e:=q;by_cases c:x=b
 ·subst c;rw[aD]at q';cases q';exact .inr ⟨hb,hd⟩
 ·rw[aC _ _ c]at q';exact .inl q'
theorem lV(w:World)(ρ:Nat→Nat)(P:Nat)(A:Adr)(f:fZ)(J:List aQ)(b:Nat)(h:St w ρ P A f J)(hz:Sz K f)(hb:b<f.cur.length)(ku:J.length≤900000):
  Calls Tryz.prog 132 #[.pointer (some ⟨P,0,none⟩),.int .i64 b] w fun e w'=>e=.returned (.tuple #[])∧∃ρ',St w' ρ' P A f (J++[(b,cu f b,f.nodes b)])∧Mv (fun _=>False) w ρ w' ρ'∧KeepsOthers w w'∧Frm (fun k=>ρ k=1∨ρ k=6) w w':=by
 obtain⟨ja,jp,jj,hR,Ki⟩:=h;have hJ:=Ki (by omega);have ho:=hR.own;obtain⟨d,hd⟩:∃d,d=(f.nodes b).getD (0,[]):=⟨_,rfl⟩;have hx:∀q,A.φ b=some q→f.nodes b=some d∧∃a junk,aK w q d a junk:=fun q e=>by
  cases hn:f.nodes b with
  | none=>rw[hR.no b hn]at e;cases e
  | some d'=>
   rw[hn]at hd;simp only[Option.getD_some]at hd;subst hd;obtain⟨q',e1,e2,e3,j,e4⟩:=hR.nd b d hn;rw[e]at e1;cases e1;exact⟨rfl,_,j,e4⟩
 have fj:d.2.length≤10:=by
  cases hn:f.nodes b with
  | none=>rw[hd,hn];simp
  | some d'=>rw[hn]at hd;simp only[Option.getD_some]at hd;subst hd;exact hz.ent b d hn
 refine(aIC P A.m A.c f.cur.length b _ _ A.tv f.next f.gen f.cur A.φ ja jp jj w hR.hP hR.hc rfl hb hz.n512 hR.hm d (fun q e=>(hx q e).2) fj (fun g e=>?_) hJ.nil hJ.small (by rw[hJ.len];exact ku)).mono ?_
 ·obtain⟨h1,h2⟩:=hJ.arr g e
  exact⟨h1,fun q=>by rw[q,hR.rP]at h2;omega,fun q=>by rw[q,hR.rm]at h2;omega,fun q=>by rw[q,hR.rc]at h2;omega⟩
 rintro e w' ⟨rfl,x',ja',jj',k1,k2,k3,k4,⟨w1,k5,k6⟩,k7⟩;refine⟨rfl,?_⟩;obtain⟨a',pp⟩:∃a':Option Nat,(x'=none→f.nodes b=none∧a'=none)∧(∀g,a'=some g→w.heap.size≤g∧∃cs,IsC w' g cs 110)∧∀q',x'=some q'→w.heap.size≤q'∧(∃cs,IsC w' q' cs 108)∧f.nodes b=some d∧∃j,aK w' q' d a' j:=by
  cases hφ:A.φ b with
  | none=>
   have:x'=none:=k5.none hφ
   refine⟨none,fun _=>⟨?_,rfl⟩,fun g e=>(by cases e),fun q' e=>by rw[this]at e;cases e⟩;cases hn:f.nodes b with
   | none=>rfl
   | some d'=>obtain⟨q',e1,_⟩:=hR.nd b d' hn;rw[hφ]at e1;cases e1
  | some q=>
   obtain⟨q',a',j',e1,e2,e3,e4⟩:=k5.some q hφ;have hS:∀y,w.heap.size≤y→¬(y=P∨ja=some y):=fun y hy q=>by
    rcases q with q | q
    ·have:=hR.hP.lt;omega
    ·have:=(hJ.arr y q).1.lt;omega
   have e5:aK w' q' d a' j':=e4.frm k6 (hS q' e2) fun g e=>hS g (e3 g e);refine⟨a',fun e=>(by rw[e1]at e;cases e),fun g e=>⟨e3 g e,_,(e5.arr g e).1⟩,fun q2 e=>?_⟩;rw[e1]at e;cases e;exact⟨e2,⟨_,e5.box⟩,(hx q hφ).1,j',e5⟩
 obtain⟨c1,c2,c3⟩:=pp;obtain⟨ρ',hρ'⟩:∃ρ':Nat→Nat,ρ'=fun k=>if k<w.heap.size then ρ k else if x'=some k then kC J.length else if a'=some k then kD J.length else if ja'=some k then 6 else 0:=⟨_,rfl⟩;have rold:∀k,k<w.heap.size→ρ' k=ρ k:=fun k hk=>by rw[hρ'];simp[hk]
 have rbx:∀q',x'=some q'→ρ' q'=kC J.length:=fun q' e=>by
  have:=(c3 q' e).1
  rw[hρ'];simp[e,show ¬q'<w.heap.size by omega]
 have rnt:∀g,a'=some g→ρ' g=kD J.length:=fun g e=>by
  obtain⟨h1,cs,h2⟩:=c2 g e;have av:x'≠some g:=fun q=>by
   obtain⟨_,⟨cs',h3⟩,_⟩:=c3 g q;exact IsC.ne h2 h3 (by decide) rfl
  rw[hρ'];simp[e,av,show ¬g<w.heap.size by omega]
 have rjn:∀g,ja'=some g→ρ' g=6:=fun g e=>by
  obtain⟨h1,h2⟩:=k2 g e;by_cases hl:g<w.heap.size
  ·rw[rold g hl]
   rcases h2 with h2 | h2
   ·exact(hJ.arr g h2).2
   ·omega
  ·have av:x'≠some g:=fun q=>by
    obtain⟨_,⟨cs',h3⟩,_⟩:=c3 g q;exact IsC.ne h1 h3 (by decide) rfl
   have RU:a'≠some g:=fun q=>by
    obtain⟨_,cs,h3⟩:=c2 g q;exact IsC.ne h1 h3 (by decide) rfl
   rw[hρ'];simp[e,av,RU,hl]
 have sd:∀k,ρ' k≠0→k<w'.heap.size:=fun k hk=>by
  by_cases hl:k<w.heap.size
  ·exact lL hl k7.size
  ·by_cases e1:x'=some k
   ·obtain⟨_,⟨_,h3⟩,_⟩:=c3 k e1;exact h3.lt
   ·by_cases e2:a'=some k
    ·obtain⟨_,_,h3⟩:=c2 k e2;exact h3.lt
    ·by_cases e3:ja'=some k
     ·exact(k2 k e3).1.lt
     ·rw[hρ']at hk;simp[hl,e1,e2,e3]at hk
 have za:∀x,x=P∨ja=some x→ρ x=1∨ρ x=6:=fun x e=>by
  rcases e with e | e
  ·left;rw[e];exact hR.rP
  ·right;exact(hJ.arr x e).2
 have no:∀{x r},ρ x=r→r≠1→r≠6→¬(x=P∨ja=some x):=fun {x r} e h1 h2 q=>by
  rcases za x q with e' | e'
  ·exact h1 (e.symm.trans e')
  ·exact h2 (e.symm.trans e')
 have ze:KeepsOthers w w':=⟨k7.size,fun k o hk hc=>by
  refine(k7.block k (Array.getElem?_eq_some_iff.1 hk).1 fun e=>?_).trans hk;rcases e with e | e
  ·subst e;rw[show w.heap[k]?=_ from hR.hP]at hk;cases hk;cases hc
  ·rw[show w.heap[k]?=_ from(hJ.arr k e).1]at hk;cases hk;cases hc⟩
 refine⟨ρ',⟨ja',jp++[((b:Int),cu f b,x')],jj',?_,?_⟩,⟨k7.wide (fun x hx e=>.inl ?_),fun x hx _=>rold x hx⟩,ze,k7.wide fun x _ e=>za x e⟩
 ·have hK:Kp (fun x=>x=P∨ja=some x) w ρ w' ρ':=⟨k7,fun x hx _=>rold x hx,sd⟩
  refine hR.gen hK (.inr ?_) (.inl ⟨no hR.rr (by omega) (by omega),rfl,rfl⟩) (.inl ⟨no hR.rm (by omega) (by omega),rfl⟩) rfl (.inl ⟨no hR.rc (by omega) (by omega),rfl⟩) rfl (.inl ⟨no hR.rd (by omega) (by omega),rfl,rfl⟩) (fun x d hx=>.inl ⟨hx,rfl,rfl,fun y hy=>?_⟩) hR.no hR.rs hR.ds
  ·have:dC A f (aGZ ja' (jp++[((b:Int),cu f b,x')]) jj')=dC A f (.slice (adr ja') (jp.length+1) (jp.length+1+jj'.length)):=by simp[aGZ]
   rw[this];exact k1
  ·rcases hy with e | e
   ·exact no e (by unfold cE;omega) (by unfold cE;omega)
   ·exact no e (by unfold cB;omega) (by unfold cB;omega)
 ·refine fun _=>⟨fun g e=>⟨(k2 g e).1,rjn g e⟩,fun e=>absurd e k3,by simpa using k4,by simp[hJ.len],fun i hi=>?_⟩
  by_cases ak:i<J.length
  ·obtain⟨h1,h2,h3⟩:=hJ.row i ak
   have e1:(J++[(b,cu f b,f.nodes b)]).getD i jr0=J.getD i jr0:=by
    rw[gD,List.getElem?_append_left ak,←gD]
   have e2:(jp++[((b:Int),cu f b,x')]).getD i j0=jp.getD i j0:=by
    rw[gD,List.getElem?_append_left (by rw[hJ.len];exact ak),←gD]
   rw[e1,e2];refine⟨h1,h2,?_⟩;cases e:(J.getD i jr0).2.2 with
   | none=>rw[e]at h3;exact h3
   | some dd=>
    rw[e]at h3;obtain⟨q,a,junk,m1,m2,m3,m4⟩:=h3;have b1:=ho q (by rw[m2];unfold kC;omega);refine⟨q,a,junk,m1,by rw[rold q b1,m2],fun g e=>?_,m4.frm k7 (no m2 (by unfold kC;omega) (by unfold kC;omega)) fun g e=>no (m3 g e) (by unfold kD;omega) (by unfold kD;omega)⟩;have b2:=ho g (by rw[m3 g e];unfold kD;omega);rw[rold g b2,m3 g e]
  ·have AM:i=J.length:=by simp at hi;omega
   subst AM;have e1:(J++[(b,cu f b,f.nodes b)]).getD J.length jr0=(b,cu f b,f.nodes b):=by simp[gD]
   have e2:(jp++[((b:Int),cu f b,x')]).getD J.length j0=((b:Int),cu f b,x'):=by rw[←hJ.len];simp[gD]
   rw[e1,e2];refine⟨rfl,rfl,?_⟩;cases bq:x' with
   | none=>simp only[(c1 bq).1]
   | some q'=>
    obtain⟨h1,h2,h3,j,h4⟩:=c3 q' bq;simp only[h3];exact⟨q',a',j,rfl,rbx q' bq,rnt,h4⟩
 ·rcases za x e with e | e<;>omega
theorem yQ(zs ys:List Int)(n:Nat):∀l:List Nat,(∀x∈l,x<n)→
  (l.filterMap fun i=>if h:2≤i∧i<n then(if isF zs ys i then some (⟨i,h⟩:Blk n)else none)else none).head?.map (fun x=>x.1)=l.find? fun b=>decide (2≤b) && (zs.getD b 0 == 0) && (ys.getD b 0 == 0)
 | [],_=>rfl
 | a :: l,h=>by
  have ih:=yQ zs ys n l fun x hx=>h x (List.mem_cons_of_mem _ hx);have ha:=h a List.mem_cons_self;by_cases h2:2≤a
  ·by_cases hf:isF zs ys a=true
   ·have:(decide (2≤a) && (zs.getD a 0 == 0) && (ys.getD a 0 == 0))=true:=by
     unfold isF at hf;simp only[Bool.and_eq_true]at hf ⊢;exact⟨⟨by simpa using h2,hf.1⟩,hf.2⟩
    rw[List.filterMap_cons_some (b:=(⟨a,h2,ha⟩:Blk n)) (by simp[h2,ha,hf]),List.find?_cons_of_pos (p:=fun b=>decide (2≤b) && (zs.getD b 0 == 0) && (ys.getD b 0 == 0)) this];rfl
   ·have:¬(decide (2≤a) && (zs.getD a 0 == 0) && (ys.getD a 0 == 0))=true:=fun q=>hf (by
     unfold isF;simp only[Bool.and_eq_true]at q ⊢;exact⟨q.1.2,q.2⟩)
    rw[List.filterMap_cons_none (by simp[h2,ha,hf]),List.find?_cons_of_neg (p:=fun b=>decide (2≤b) && (zs.getD b 0 == 0) && (ys.getD b 0 == 0)) this];exact ih
  ·rw[List.filterMap_cons_none (by simp[h2]),List.find?_cons_of_neg (p:=fun b=>decide (2≤b) && (zs.getD b 0 == 0) && (ys.getD b 0 == 0)) (by simp[h2])]
   exact ih
theorem aLY(f:fZ):low f.cur f.com=(aF f:Int):=by
 have h:=yQ f.cur f.com f.cur.length (List.range f.cur.length) (fun x hx=>by simpa using hx);unfold low aF cu co;rw[←h];unfold frs;split
 ·rename_i e;rw[e];rfl
 ·rename_i x l e;rw[e];rfl
theorem lS{ys:List Int}(h:IsC w c (dD (zs++ys)) 2)(hs:∀i,0≤zs.getD i 0∧zs.getD i 0≤2000000):Nts w (.slice (some ⟨c,0,none⟩) zs.length (zs.length+ys.length)) zs:=by
 refine⟨fun i=>by have:=hs i;omega,_,_,rfl,fun _=>⟨c,0,rfl,fun i hi=>?_⟩⟩;rw[h.cell];simp only[dD,Nat.zero_add,List.getElem?_toArray,List.map_append,gD];rw[List.getElem?_append_left (by simpa using hi),List.getElem?_map,gE hi];rfl
theorem xA(h:IsC w c (jG zs dj) 2)(hs:∀i,0≤zs.getD i 0∧zs.getD i 0≤2000000):Nts w (.slice (some ⟨c,0,none⟩) zs.length (zs.length+dj.length)) zs:=by
 refine⟨fun i=>by have:=hs i;omega,_,_,rfl,fun _=>⟨c,0,rfl,fun i hi=>?_⟩⟩;rw[h.cell];simp only[jG,Nat.zero_add,List.getElem?_toArray,gD];rw[List.getElem?_append_left (by simpa using hi),List.getElem?_map,gE hi];rfl
theorem aLN(h:IsC w c (jG zs dj) 2){i:Nat}(hi:i<zs.length):w.cell? ⟨c,i,none⟩=some (.int .i64 (zs.getD i 0)):=by
 rw[h.cell];simp only[jG,List.getElem?_toArray,gD];rw[List.getElem?_append_left (by simpa using hi),List.getElem?_map,gE hi];rfl
structure TkS(P m c:Nat)(n:Nat)(dv jv:Value)(w:World):Prop where
 m3:w.cell? ⟨P,3,none⟩=some (.map (some m))
 m4:w.cell? ⟨P,4,none⟩=some (.slice (some ⟨c,0,none⟩) n n)
 m5:w.cell? ⟨P,5,none⟩=some dv
 m7:w.cell? ⟨P,7,none⟩=some jv
theorem Rp.cells(h:Rp w ρ P A f jv):TkS P A.m A.c f.cur.length (.slice (some ⟨A.d,0,none⟩) f.com.length (f.com.length+A.dj.length)) jv w:=
 ⟨by rw[h.hP.cell];rfl,by rw[h.hP.cell];rfl,by rw[h.hP.cell];rfl,by rw[h.hP.cell];rfl⟩
theorem Mv.of_below{X:Nat→Prop}{w':World}(h:Bl w w'):Mv X w ρ w' ρ:=⟨Frm.of_below h,fun _ _ _=>rfl⟩
theorem Rp.count(h:Rp w ρ P A f jv)(hb:b<f.cur.length):w.cell? ⟨A.c,b,none⟩=some (.int .i64 (cu f b)):=by
 rw[h.hc.cell];simp[dD,cu,gD,hb]
theorem aA{p:Prop}(h:p):Hid p:=h
abbrev aBH:Ending:=.panicked [{v:=.iface 169 (.agg #[]),recovered:=false}]
structure aMK(w:World)(ρ:Nat→Nat)(P:Nat)(A:Adr)(f:fZ)(J:List aQ)(q:Nat)(d:Nd)(a:Option Nat)(e:Ending)(w':World):Prop where
 no:aF f=0→e=aBH∧Bl w w'
 yes:aF f≠0→e=.returned (.int .i64 (aF f))∧∃ρ',St w' ρ' P (cV A (aF f) q a) (takeAt f (aF f) d) (J++[(aF f,cu f (aF f),f.nodes (aF f))])∧Mv (fun x=>x=q∨a=some x) w ρ w' ρ'∧Frm (fun k=>ρ k=1∨ρ k=6∨ρ k=3∨ρ k=4) w w'
theorem oI(w:World)(ρ:Nat→Nat)(P:Nat)(A:Adr)(f:fZ)(J:List aQ)(q:Nat)(d:Nd)(a:Option Nat)(junk:List E3)(h:St w ρ P A f J)(hz:Sz K f)(hK:K≤1000000)(ku:J.length≤900000)(hN:aK w q d a junk)(hq:ρ q=0)(ha:∀g,a=some g→ρ g=0):
  Calls Tryz.prog 133 #[.pointer (some ⟨P,0,none⟩),.pointer (some ⟨q,0,none⟩)] w (aMK w ρ P A f J q d a):=by
 have qh:=h;obtain⟨ja,jp,jj,hR,hJ⟩:=h;obtain⟨m3,m4,m5,m7⟩:=hR.cells;have AT:=sD (some ⟨A.c,0,none⟩) (some ⟨A.d,0,none⟩) f.cur.length (f.com.length+A.dj.length) f.cur f.com hz.com hz.n512 hz.n8;rw[aLY]at AT;have nk:∀w:World,IsC w A.c (dD f.cur) 2→Nts w (.slice (some ⟨A.c,0,none⟩) f.cur.length f.cur.length) f.cur:=fun w h=>by
  have:=lS (ys:=[]) (by simpa using h:IsC w A.c (dD (f.cur++[])) 2) (fun i=>by have:=hz.cb i;unfold cu at this;omega)
  simpa using this
 have C0:∀w:World,IsC w A.d (jG f.com A.dj) 2→Nts w (.slice (some ⟨A.d,0,none⟩) f.com.length (f.com.length+A.dj.length)) f.com:=fun w h=>xA h (fun i=>by have:=hz.mb i;unfold co at this;omega);go_enter Tryz.func133,Tryz.ntmps133;go_wp2;go_region_held3 (fun w'=>w'.cell? ⟨P,4,none⟩=some (.slice (some ⟨A.c,0,none⟩) f.cur.length f.cur.length)∧w'.cell? ⟨P,5,none⟩=some (.slice (some ⟨A.d,0,none⟩) f.com.length (f.com.length+A.dj.length))) (first | go_keep | exact⟨m4,m5⟩ | exact⟨(hB.cell (p:=⟨P,4,none⟩) hR.hP.lt).trans m4,(hB.cell (p:=⟨P,5,none⟩) hR.hP.lt).trans m5⟩) ((go_at_call 151;refine(AT _ (nk _ ?_) (C0 _ ?_)).mono ?_;exact hR.hc;exact hR.hd;rintro e w1 ⟨rfl,cw⟩;have hB:Bl w w1:=(bQ w.heap.size w).drew.trans cw));by_cases h0:aF f=0
 ·have PL:((aF f:Nat):Int)=0:=by omega
  go_wp2
  exact⟨rfl,fun _=>⟨rfl,hB⟩,fun q=>absurd h0 q⟩
 ·have PL:¬((aF f:Nat):Int)=0:=by omega
  obtain⟨l1,l2,l3,l4⟩:=aR h0;have Pz:St w1 ρ P A f J:=qh.below hB;go_wp2_with fail;refine(lV _ ρ P A f J (aF f) Pz hz l2 ku).mono ?_;rintro e w2 ⟨rfl,ρ2,ax,li,-,wm⟩;have y8:aK w1 q d a junk:=hN.below hB;have sa:aK w2 q d a junk:=y8.frm li.frm (fun e=>by rcases e with e | e;exact e hq;exact e) fun g eg e=>by rcases e with e | e;exact e (ha g eg);exact e
  have h9:ρ2 q=0:=by rw[li.rol q y8.box.lt (fun e=>e)];exact hq
  have Vn:∀g,a=some g→ρ2 g=0:=fun g e=>by rw[li.rol g (y8.arr g e).1.lt (fun e=>e)];exact ha g e
  obtain⟨ja2,jp2,jj2,gi,nu⟩:=id ax;obtain⟨n3,n4,n5,n7⟩:=gi.cells;obtain⟨w3,YT,Ew,bu⟩:=gi.hm.put (aF f) q (by have:=hz.n512;omega);obtain⟨cy,E2⟩:=ax.put sa h9 Vn Ew bu;obtain⟨ja3,jp3,jj3,qn,vf⟩:=id cy;have o4:w3.cell? ⟨P,4,none⟩=some (.slice (some ⟨A.c,0,none⟩) f.cur.length f.cur.length):=qn.cells.m4;have kz:w3.cell? ⟨A.c,aF f,none⟩=some (.int .i64 0):=by
   have:=qn.hc.cell (aF f)
   rw[show(cV A (aF f) q a).c=A.c from rfl]at this;rw[this];have l3':f.cur.getD (aF f) 0=0:=l3;rw[gD]at l3';simp only[dD,List.getElem?_toArray,List.getElem?_map,setN,gE l2]at l3' ⊢;simp at l3' ⊢;exact l3'
  have Ks:w3.frozen? ⟨A.c,aF f,none⟩=false:=qn.hc.frozen (aF f);obtain⟨aw,Gg⟩:=cy.setC (b:=aF f) l2 1;have l2i:((aF f:Nat):Int) <(f.cur.length:Int):=by omega
  have FQ:=aA aw;have Lk:=aA Gg;clear aw Gg;go_wp2;go_ret;refine⟨fun q=>absurd q h0,fun _=>⟨rfl,_,FQ.out,?_,?_⟩⟩
  ·exact(((Mv.of_below (X:=fun x=>x=q∨a=some x) (ρ:=ρ) hB).trans li (fun _ _ e=>e.elim)).trans E2 (fun x _ e=>e)).trans Lk.out (fun _ _ e=>e.elim)
  ·have F1:Frm (fun k=>ρ k=1∨ρ k=6∨ρ k=3∨ρ k=4) w w3:=((Frm.of_below hB).next wm (fun x _ e=>by rcases e with e | e;exact .inl e;exact .inr (.inl e))).next bu (fun x _ e=>.inr (.inr (.inl (by rw[e];exact hR.rm))))
   exact F1.trans (Frm.set w3 (p:=⟨A.c,aF f,none⟩) (.inr (.inr (.inr hR.rc))) _)
theorem aJS(w:World)(ρ:Nat→Nat)(P:Nat)(A:Adr)(f:fZ)(J:List aQ)(b:Nat)(h:St w ρ P A f J)(hz:Sz K f)(ku:J.length≤900000)(hb:b<f.cur.length):
  Calls Tryz.prog 123 #[.pointer (some ⟨P,0,none⟩),.int .i64 b] w fun e w'=>e=.returned (.tuple #[])∧∃ρ',St w' ρ' P (gP A b) (freeB f b) (J++[(b,cu f b,f.nodes b)])∧Mv (fun _=>False) w ρ w' ρ':=by
 go_enter Tryz.func123,Tryz.ntmps123
 go_wp2_with fail
 refine(lV _ ρ P A f J b h hz hb ku).mono ?_;rintro e w2 ⟨rfl,ρ2,ax,li,-⟩;obtain⟨ja2,jp2,jj2,gi,nu⟩:=id ax;obtain⟨n3,n4,n5,n7⟩:=gi.cells;have DN:(b:Int) <(f.cur.length:Int):=by omega
 have kz:=gi.count hb;have Ks:w2.frozen? ⟨A.c,b,none⟩=false:=gi.hc.frozen b;obtain⟨aw,Gg⟩:=ax.setC (b:=b) hb 0;obtain⟨ja3,jp3,jj3,qn,vf⟩:=id aw;obtain⟨w5,FD,ng,er⟩:=qn.hm.del b (by have:=hz.n512;omega) 0;have o3:(w2.setCell ⟨A.c,b,none⟩ (.int .i64 0)).cell? ⟨P,3,none⟩=some (.map (some A.m)):=qn.cells.m3;obtain⟨cq,Ik⟩:=aw.del (b:=b) ng er;have CB:=aA cq;have PE:=aA Ik;have Lk:=aA Gg;clear cq Ik Gg aw;go_wp2;go_end0;exact⟨rfl,ρ2,CB.out,(li.trans Lk.out (fun _ _ e=>e)).trans PE.out (fun _ _ e=>e)⟩
end Go.Proofs.YtaahkgkdpnnhhaaGreat
namespace Go.Proofs.YtaahkgkdpnnhhaaGreat
open Go.RowKit Go.Shelf Fo
attribute [local go_sem] Oper.semAt_some
def aFR(F:Fence)(n:Nat)(P:Program)(g:Nat)(lb:Array Value)(vs:List Nat)(Kp:World→World→Prop)(w:World):Prop:=
 ∀(l:Nat) (J:List Nat→World→Prop) (W:World),Bl w W→AbidesFrom W.heap.size J→
  (∀(pre:List Nat) (x:Nat) (W1:World),J pre W1→pre++[x] <+: vs→YieldAt F (n-1) P l #[.int .i64 (x:Int)] W1 fun e W'=>e=.returned (.bool true)∧J (pre++[x]) W'∧Kp W1 W')→
  J [] W→CallsIn F n P g (#[.func (.yield l) #[] #[]]++lb) W fun e W'=>(∃v,e=.returned v)∧J vs W'
theorem jB{F:Fence}{n:Nat}{P:Program}{g:Operand}{ps:Array Tmp}{assign body:Code}{Q:Exit→Act→World→Prop}{a:Act}{w:World}
  (c9:F.round=none) (h1:1≤n) {gf:Nat} {lb:Array Value} (hg:a.eval g=.func (.func gf) #[] lb) (Pd:F.fn gf) (eg:∀args w,(callFunc gf args).run P w=.ok (.enter gf args) w)
  {Kp:World→World→Prop} {vs:List Nat} {w0:World} (KN:aFR F (n-1) P gf lb vs Kp w0)
  (Kj:∀{A B C:World},Kp A B→Kp B C→Kp A C) (IV:∀(W:World) (l:Nat) (o o':Obj),w.heap.size≤l→W.heap[l]?=some o→o.isCells=false→o.isWalk=false→Kp W (W.putObj l o')) (gz:Bl w0 w) (KE:ps.size=1)
  (I:List Nat→World→Prop) (hI:OwnFrom w.heap.size I) (h0:I [] w)
  (uq:∀(l:Nat) (pre:List Nat) (x:Nat) (W:World),I pre W→pre++[x] <+: vs→
   assign.wpIn (F.inRound l) (n-1-1) P (Exit.then (fun a' W'=>W'=W∧∀W2,I pre W2→body.wpIn (F.inRound l) (n-1-1) P (ownPostG w.heap.size Kp I (fun _ _ _=>False) (pre++[x]) W2) a' W2) (fun _ _ _=>False)) {tmps:=(ps.zip #[.int .i64 (x:Int)]).foldl (fun t (p,v)=>t.setIfInBounds p v) a.tmps,defers:=[]} W)
  (AJ:∀(D:Nat) (W:World),w.heap.size≤D→I vs W→W.heap[D]?=some (.deferred (some []))→Q .normal {a with defers:={target:=.collected D,args:=#[]} :: a.defers} W):
  (Code.rangeFunc g ps assign body).wpIn F n P Q a w:=by
 refine wpIn_rangeFunc fun fn pa=>?_;rw[c9];obtain⟨D,hD⟩:=eZ (w.heap.size);obtain⟨R,hR⟩:∃R:LoopState→Option Code→Loop,R=fun st pe=>{state:=st,pending:=pe,fn,tmps:=a.tmps,params:=ps,assign,body,defers:=w.heap.size}:=⟨_,rfl⟩;obtain⟨V,hV⟩:=eZ ((w.alloc (.deferred (some []))).alloc (.loop (R .ready none)));have sz:V.heap.size=D+2:=by rw[←hV,←hD];simp
 have atL:V.heap[D+1]?=some (.loop (R .ready none)):=by
  have:=World.alloc_heap_new (w.alloc (.deferred (some []))) (.loop (R .ready none))
  rw[World.size_alloc,hV,hD]at this;exact this
 have atD:V.heap[D]?=some (.deferred (some [])):=by
  rw[←hV,←hD];exact(Below.heap_alloc _ _ _ (by simp)).trans (World.alloc_heap_new w _)
 have start:I [] V:=by rw[←hV];exact hI.alloc _ (hI.alloc _ h0)
 have old:Bl w0 V:=by
  rw[←hV];exact gz.trans ((((bQ _ w).alloc (nR _) _).alloc (by simp) _).mono gz.size)
 refine⟨D+1,[{target:=.collected D,args:=#[]}],V,{target:=.fn (.func gf) lb,args:=#[.func (.yield (D+1)) #[] #[]]},V,gf,#[.func (.yield (D+1)) #[] #[]]++lb,V,?_,?_,?_,?_,fun _=>h1,?_⟩
 ·rw[←hV,←hD,hR];exact run_enterLoop_outer _ _ _ _ _
 ·simp only[resolve,hg];simp[go_sem]
 ·intro f' EP;simp[Target.leads]at EP;subst EP;exact Pd
 ·simp[invoke,go_sem,eg]
 rw[hD]at hI IV uq AJ;have book:AbidesFrom V.heap.size fun pre W=>I pre W∧W.heap[D+1]?=some (.loop (R .ready none))∧W.heap[D]?=some (.deferred (some [])):=fun s X Y row hs rf hr=>
  ⟨hI s X Y row hs.1 rf fun r e=>by obtain⟨hB,o,ho,hw⟩:=hr r e;exact⟨by omega,o,ho,Obj.not_cells_of_walk hw⟩,
   (grownBy_keeps rf (fun r e=>(hr r e).2) hs.2.1 rfl).trans hs.2.1,(grownBy_keeps rf (fun r e=>(hr r e).2) hs.2.2 rfl).trans hs.2.2⟩
 refine(KN (D+1) _ V old book (fun pre x W hJ lg=>?_) ⟨start,atL,atD⟩).mono ?_
 ·obtain⟨hi,hl,hk⟩:=hJ
  have ai:D+1<W.heap.size:=(Array.getElem?_eq_some_iff.1 hl).1;have hy:=run_yield (P:=P) (args:=#[.int .i64 (x:Int)]) hl (by rw[hR];exact KE.symm);rw[hR]at hy;refine⟨fn,_,assign,body,hy,roundIn_of_wpIn pa (wpIn_mono (uq (D+1) pre x W hi lg) ?_)⟩;clear hy;rintro e a' W' h;cases e with
  | ret=>exact h
  | exit id=>exact h
  | goto t=>exact h
  | panic ch=>exact h
  | outgrown=>exact h
  | normal=>
  obtain⟨rfl,ED⟩:=h;refine⟨_,run_beginRound hl (by rw[hR]),?_⟩;have b2:(W'.putObj (D+1) (.loop {R .ready none with state:=.busy})).heap[D+1]?=some (.loop {R .ready none with state:=.busy}):=World.putObj_heap_same ai;have d2:(W'.putObj (D+1) (.loop {R .ready none with state:=.busy})).heap[D]?=some (.deferred (some [])):=(World.putObj_heap_other (by omega)).trans hk;refine wpIn_mono (ED _ (hI.putObj _ hi (by omega) hl rfl)) ?_;rintro e a3 W3 hp;cases e with
  | normal=>
   obtain⟨k3,p3,i3⟩:=hp;have l3:=k3.same _ _ (by omega) b2 rfl;have hr:=run_endRound (P:=P) none l3;rw[hR]at hr l3;refine⟨_,_,hr,rfl,⟨hI.putObj _ i3 (by omega) l3 rfl,?_,?_⟩,Kj (Kj (IV _ _ _ _ (by omega) hl rfl rfl) p3) (IV _ _ _ _ (by omega) l3 rfl rfl)⟩
   ·rw[hR];exact World.putObj_heap_same (Array.getElem?_eq_some_iff.1 l3).1
   ·exact(World.putObj_heap_other (by omega)).trans (k3.same _ _ (nR _) d2 rfl)
  | ret=>exact hp.2.elim
  | exit id=>exact hp.2.elim
  | goto t=>exact hp.2.elim
  | panic ch=>exact hp.elim
  | outgrown=>exact hp.elim
 ·rintro e W2 ⟨⟨v,rfl⟩,hi,hl,hk⟩
  exact⟨none,_,by have:=run_endLoop (P:=P) hl (by rw[hR];simp);rw[hR]at this;exact this,AJ _ _ (nR _) (hI.putObj _ hi (by omega) hl rfl) ((World.putObj_heap_other (by omega)).trans hk)⟩
structure KpC(Bn q:Nat)(a:Option Nat)(W W':World):Prop where
 size:W.heap.size≤W'.heap.size
 bn:W'.heap[Bn]?=W.heap[Bn]?
 q:W'.heap[q]?=W.heap[q]?
 a:∀g,a=some g→W'.heap[g]?=W.heap[g]?
theorem rX(d:Nd):(kids d).length≤d.2.length:=by unfold kids;split<;>simp
theorem KpC.refl(Bn q:Nat)(a:Option Nat)(W:World):KpC Bn q a W W:=⟨nR _,rfl,rfl,fun _ _=>rfl⟩
theorem KpC.trans{Bn q:Nat}{a:Option Nat}{A B C:World}(h:KpC Bn q a A B)(k:KpC Bn q a B C):KpC Bn q a A C:=
 ⟨lT h.size k.size,k.bn.trans h.bn,k.q.trans h.q,fun g e=>(k.a g e).trans (h.a g e)⟩
theorem KpC.put{Bn q N:Nat}{a:Option Nat}(h1:Bn<N)(h2:q<N)(h3:∀g,a=some g→g<N)(W:World)(l:Nat)(o o':Obj)(hl:N≤l)(_ho:W.heap[l]?=some o)(_:o.isCells=false)(_:o.isWalk=false):KpC Bn q a W (W.putObj l o'):=
 ⟨by simp[World.putObj],World.putObj_heap_other (by omega),World.putObj_heap_other (by omega),fun g e=>World.putObj_heap_other (by have:=h3 g e;omega)⟩
theorem KpC.grown{Bn q:Nat}{a:Option Nat}{W W':World}(h:W.grownBy W' none)(h1:Bn<W.heap.size)(h2:q<W.heap.size)(h3:∀g,a=some g→g<W.heap.size):KpC Bn q a W W':=
 ⟨h.size,h.block Bn h1 (by simp),h.block q h2 (by simp),fun g e=>h.block g (h3 g e) (by simp)⟩
theorem aK.kp{W W':World}{Bn q:Nat}{a:Option Nat}{d:Nd}{junk:List E3}(h:aK W q d a junk)(k:KpC Bn q a W W'):aK W' q d a junk:=
 ⟨h.box.of k.q,fun g e=>⟨(h.arr g e).1.of (k.a g e),(h.arr g e).2⟩,h.nil,h.small⟩
theorem wC(F:Fence)(n:Nat)(hg:F.fn 82)(c9:F.round=none)(hn:1≤n)(l Bn q:Nat)(a:Option Nat)(k:Int)(es junk:List E3)(fj:es.length≤10)(Av:k=2→∀e∈es,0≤e.2.2)(J:List Nat→World→Prop)(B0:Nat)(hJ:AbidesFrom B0 J)
  (hY:∀pre (x:Nat) W,J pre W→pre++[x] <+: kids (k,es)→YieldAt F (n-1) Tryz.prog l #[.int .i64 (x:Int)] W fun e W'=>e=.returned (.bool true)∧J (pre++[x]) W'∧KpC Bn q a W W')
  (W:World) (hB:IsC W Bn #[.pointer (some ⟨q,0,none⟩)] 112) (hN:aK W q (k,es) a junk) (h0:J [] W):
  CallsIn F n Tryz.prog 82 #[.func (.yield l) #[] #[],.pointer (some ⟨Bn,0,none⟩)] W fun e W'=>(∃v,e=.returned v)∧J (kids (k,es)) W':=by
 have lv:es.length+junk.length≤maxLen:=hN.small;have c0:W.cell? ⟨Bn,0,none⟩=some (.pointer (some ⟨q,0,none⟩)):=hB.c rfl;have c1:W.cell? ⟨q,1,none⟩=some (.slice (adr a) es.length (es.length+junk.length)):=by rw[hN.box.cell];rfl
 refine callsIn_of_wp Tryz.func82 rfl hg ?_ c9;simp only[Tryz.ntmps82,List.size_toArray,List.length_cons,List.length_nil,Nat.reduceAdd,Nat.reduceSub,Array.replicate_succ,Array.replicate_zero,List.push_toArray,List.append_toArray,List.nil_append,List.cons_append];gi_wp2;gi_loopw [10] (fun i wr=>∃m:Nat,m≤es.length∧i=.int .i64 m∧J ((kids (k,es)).take m) wr∧KpC Bn q a W wr) (fun i _=>es.length -(intOf i).toNat)
 case atStart=>exact⟨0,Nat.zero_le _,rfl,by simpa using h0,KpC.refl _ _ _ _⟩
 case round=>
  obtain⟨m,hm,rfl,Ci,hk⟩:=hrel;have Dc:IsC wr Bn #[.pointer (some ⟨q,0,none⟩)] 112:=hB.of hk.bn;have L6:aK wr q (k,es) a junk:=hN.kp hk;have d0:wr.cell? ⟨Bn,0,none⟩=some (.pointer (some ⟨q,0,none⟩)):=Dc.c rfl;have d1:wr.cell? ⟨q,0,none⟩=some (.int .i64 k):=by rw[L6.box.cell];rfl
  by_cases ai:m<es.length
  ·obtain⟨g,ue,Mi,Be⟩:=L6.some (by simp;omega)
   subst ue;have Xk:m <(es++junk).length:=by simp;omega
   obtain⟨e1,e2,e3⟩:=bF Mi Xk;have ik:(es++junk).getD m e0=es.getD m e0:=by rw[gD,List.getElem?_append_left ai,←gD]
   simp only at e1 e2 e3
   rw[ik]at e1 e2 e3;have HX:Hid (m<es.length∧(es.getD m e0).2.2=(es.getD m e0).2.2):=⟨ai,rfl⟩;obtain⟨⟨s1,s2,x⟩,Fx⟩:∃ek,es.getD m e0=ek:=⟨_,rfl⟩;rw[Fx]at e1 e2 e3;have HK:Hid (es.getD m e0=(s1,s2,x)):=Fx;have hi:(m:Int) <(es.length:Int):=by omega
   have xf:Bn<wr.heap.size:=Dc.lt;have C1:q<wr.heap.size:=L6.box.lt;have E9:g<wr.heap.size:=Mi.lt;have bm:wr.grownBy (wr.alloc (.cells #[.string s1,.string s2,.int .i64 x] 110)) none:=World.grownBy_alloc _ _ none;have qk:Hid (J ((kids (k,es)).take m) (wr.alloc (.cells #[.string s1,.string s2,.int .i64 x] 110))):=hJ _ _ _ none Ci bm (fun r e=>by cases e);have Ns:Hid (KpC Bn q (some g) wr (wr.alloc (.cells #[.string s1,.string s2,.int .i64 x] 110))):=KpC.grown bm xf C1 (fun g' e=>by cases e;exact E9);clear c0 c1 ik Fx bm Ci;simp only[adr,Option.map_some]at *;by_cases uh:k=2
   ·subst uh
    have WI:(s1,s2,x)∈es:=by rw[←HK.out,gD,gE ai];exact List.getElem_mem _
    obtain⟨y,rfl⟩:∃y:Nat,x=(y:Int):=⟨x.toNat,by have:=Av rfl _ WI;simp only at this;omega⟩;have HT:Hid ((kids (2,es)).take m++[y]=(kids (2,es)).take (m+1)):=by
     have hx:(kids (2,es))[m]?=some y:=by
      have:=HK.out
      rw[gD,gE ai]at this;simp only[Option.getD_some]at this;simp[kids,gE ai,this,ch]
     show _=_
     rw[List.take_add_one,hx];rfl
    obtain⟨fn,tmps,assign,body,hy,hR⟩:=hY _ y _ qk.out (by rw[HT.out];exact List.take_prefix _ _);clear hY;have HB:=aA hk;clear hk;gi_wp2;refine hR.mono ?_;rintro e W3 ⟨rfl,vf,Jo⟩;rw[HT.out]at vf;clear d0 d1 e1 e2 e3 hy hR;gi_wp2;go_roundw
    case rel=>exact⟨m+1,by omega,by go_num,vf,(HB.out.trans Ns.out).trans Jo⟩
    case measure=>simp[intOf];omega
   ·have Wc:(k == 2)=false:=by simpa using uh
    have HT:Hid ((kids (k,es)).take (m+1)=(kids (k,es)).take m):=by
     show _=_
     simp[kids,uh]
    clear hY;gi_wp2;refine⟨fun _ h=>(by cases h),?_⟩;gi_wp2;go_roundw
    case rel=>exact⟨m+1,by omega,by go_num,by rw[HT.out];exact qk.out,hk.trans Ns.out⟩
    case measure=>simp[intOf];omega
  ·obtain rfl:m=es.length:=by omega
   have HT:Hid ((kids (k,es)).take es.length=kids (k,es)):=List.take_of_length_le (rX (k,es));gi_wp2;go_end0;exact⟨⟨_,rfl⟩,by rw[←HT.out];exact Ci⟩
theorem kO(F:Fence)(n:Nat)(hg:F.fn 59)(c9:F.round=none)(p:Addr)(w:World):
  CallsIn F n Tryz.prog 59 #[.pointer (some p)] w fun e w'=>e=.returned (.func (.func 82) #[] #[.pointer (some ⟨w.heap.size,0,none⟩)])∧w'=w.alloc (.cells #[.pointer (some p)] 112):=by
 refine callsIn_of_wp Tryz.func59 rfl hg ?_ c9;simp only[Tryz.ntmps59,List.size_toArray,List.length_cons,List.length_nil,Nat.reduceAdd,Nat.reduceSub,Array.replicate_succ,Array.replicate_zero,List.push_toArray,List.append_toArray,List.nil_append,List.cons_append];gi_wp2;go_ret;exact⟨rfl,rfl⟩
theorem jT(F:Fence)(n:Nat)(hg:F.fn 82)(c9:F.round=none)(hn:1≤n)(Bn q:Nat)(d:Nd)(a:Option Nat)(junk:List E3)(fj:d.2.length≤10)(Av:d.1=2→∀e∈d.2,0≤e.2.2)(w:World)
  (hB:IsC w Bn #[.pointer (some ⟨q,0,none⟩)] 112) (hN:aK w q d a junk):
  aFR F n Tryz.prog 82 #[.pointer (some ⟨Bn,0,none⟩)] (kids d) (KpC Bn q a) w:=fun l J W hW hJ hY h0=>
 wC F n hg c9 hn l Bn q a d.1 d.2 junk fj Av J _ hJ hY W (hB.of (hW.block _ hB.lt)) (hN.below hW) h0
attribute [local go_sem] Oper.semAt_some
variable {w w' : World} {ρ : Nat → Nat} {P : Nat} {A : Adr} {f : fZ} {J : List aQ}
theorem IsC.own{g:Nat}{cs:Array Value}{t:TypeId}{row:Option Nat}(h:IsC w g cs t)(hg:w.grownBy w' row)(hr:∀r,row=some r→∃o:Obj,w.heap[r]?=some o∧o.isCells=false):IsC w' g cs t:=by
 refine h.of (hg.block g h.lt fun e=>?_);obtain⟨o,ho,hc⟩:=hr g e.symm;rw[show w.heap[g]?=_ from h]at ho;cases ho;cases hc
theorem aK.own{q:Nat}{d:Nd}{a:Option Nat}{junk:List E3}{row:Option Nat}(h:aK w q d a junk)(hg:w.grownBy w' row)(hr:∀r,row=Option.some r→∃o:Obj,w.heap[r]?=Option.some o∧o.isCells=false):aK w' q d a junk:=
 ⟨h.box.own hg hr,fun g e=>⟨(h.arr g e).1.own hg hr,(h.arr g e).2⟩,h.nil,h.small⟩
theorem St.own{row:Option Nat}(h:St w ρ P A f J)(hg:w.grownBy w' row)(hr:∀r,row=some r→r≠A.m∧∃o:Obj,w.heap[r]?=some o∧o.isCells=false):St w' ρ P A f J:=by
 obtain⟨ja,jp,jj,h1,h2⟩:=h;have ph:∀r,row=some r→∃o:Obj,w.heap[r]?=some o∧o.isCells=false:=fun r e=>(hr r e).2;refine⟨ja,jp,jj,⟨fun k hk=>lL (h1.own k hk) hg.size,h1.hP.own hg ph,h1.rP,h1.hr.own hg ph,h1.rr,h1.hm.of (hg.block _ h1.hm.lt fun e=>(hr _ e.symm).1 rfl),h1.rm,h1.hc.own hg ph,h1.rc,h1.hd.own hg ph,h1.rd,fun b d hb=>?_,h1.no,h1.rs,h1.ds⟩,fun hl=>⟨fun g e=>⟨((h2 hl).arr g e).1.own hg ph,((h2 hl).arr g e).2⟩,(h2 hl).nil,(h2 hl).small,(h2 hl).len,fun i hi=>?_⟩⟩
 ·obtain⟨q,k1,k2,k3,j,k4⟩:=h1.nd b d hb
  exact⟨q,k1,k2,k3,j,k4.own hg ph⟩
 ·obtain⟨k1,k2,k3⟩:=(h2 hl).row i hi
  refine⟨k1,k2,?_⟩;cases e:(J.getD i jr0).2.2 with
  | none=>rw[e]at k3;exact k3
  | some d=>
   rw[e]at k3;obtain⟨q,a,junk,m1,m2,m3,m4⟩:=k3;exact⟨q,a,junk,m1,m2,m3,m4.own hg ph⟩
theorem Mv.own{X:Nat→Prop}{w0:World}{ρ0:Nat→Nat}{row:Option Nat}(h:Mv X w0 ρ0 w ρ)(hg:w.grownBy w' row)(hr:∀r,row=some r→w0.heap.size≤r):Mv X w0 ρ0 w' ρ:=
 ⟨⟨hg.os.trans h.frm.os,hg.tape.trans h.frm.tape,hg.output.trans h.frm.output,lT h.frm.size hg.size,fun k hk hn=>(hg.block k (lL hk h.frm.size) fun e=>by have:=hr k e.symm;omega).trans (h.frm.block k hk hn)⟩,h.rol⟩
def gW(f:fZ)(b:Nat)(ks:List Nat):fZ:={f with cur:=iI (f.cur.set b (cu f b-1)) ks}
theorem yV(ks:List Nat)(k:Nat):∀c:List Int,iI c (ks++[k])=(iI c ks).set k ((iI c ks).getD k 0+1):=by
 induction ks with
 | nil=>intro c;rfl
 | cons a ks ih=>intro c;exact ih _
theorem oZ(f:fZ)(b:Nat)(ks:List Nat)(k:Nat):gW f b (ks++[k])=setC (gW f b ks) k (cu (gW f b ks) k+1):=by
 unfold gW setC cu;simp only[yV]
theorem zH(f:fZ)(b:Nat)(ks:List Nat):(gW f b ks).cur.length=f.cur.length:=by simp[gW,mM]
theorem aHR(f:fZ)(b:Nat):gW f b []=setC f b (cu f b-1):=rfl
theorem Sz.mid{K:Int}{f:fZ}(h:Sz K f){b:Nat}(hb:1≤cu f b):∀ks:List Nat,Sz (K+ks.length) (gW f b ks):=by
 intro ks;have key:∀l:List Nat,Sz (K+l.reverse.length) (gW f b l.reverse):=fun l=>by
  induction l with
  | nil=>rw[List.reverse_nil,aHR];exact(h.setC b (by omega) (by have:=h.cb b;omega)).up (by simp)
  | cons a l ih=>
   rw[List.reverse_cons,oZ];have:=ih.cb a;refine(ih.up ?_).setC a (by omega) (by simp only[lP,List.length_cons,List.length_nil];omega);simp only[lP,List.length_cons,List.length_nil];omega
 simpa using key ks.reverse
theorem aEM{f:fZ}{b:Nat}{d:Nd}(h1:cu f b≠1)(hd:f.nodes b=some d):letGo f b=gW f b (kids d):=by
 unfold letGo;rw[if_neg h1,hd];rfl
theorem aHK{K:Int}(F:Fence)(n:Nat)(hW:∀{f:FuncId} {args:Array Value} {w:World} {R:Ending→World→Prop} {m:Nat},Calls Tryz.prog f args w R→CallsIn F m Tryz.prog f args w R)(pa:∀k,F.fn k)(c9:F.round=none)(hn:5≤n)
  (w:World) (ρ:Nat→Nat) (P:Nat) (A:Adr) (f:fZ) (J:List aQ) (b:Nat) (d:Nd) (h:St w ρ P A f J) (hz:Sz K f) (hK:K≤900000) (ku:J.length≤800000) (hb:f.nodes b=some d) (ed:1≤cu f b) (pd:∀c∈kids d,c<f.cur.length) (Av:d.1=2→∀e∈d.2,0≤e.2.2):
  CallsIn F n Tryz.prog 135 #[.pointer (some ⟨P,0,none⟩),.int .i64 b] w fun e w'=>e=.returned (.tuple #[])∧∃ρ' J',St w' ρ' P (if cu f b=1 then gP A b else A) (letGo f b) J'∧Mv (fun _=>False) w ρ w' ρ'∧JS 11 f J (letGo f b) J'∧Sz (K+10) (letGo f b):=by
 have nk:1≤n:=by omega
 have d9:b<f.cur.length:=hz.lt b d hb;have DN:(b:Int) <(f.cur.length:Int):=by omega
 have fj:d.2.length≤10:=hz.ent b d hb;obtain⟨ja,jp,jj,hR,hJ⟩:=id h;obtain⟨m3,m4,m5,m7⟩:=hR.cells;have kz:=hR.count d9;have DL:=hR.hP.lt;have au:=hR.hc.lt;refine callsIn_of_wp_marks Tryz.func135 rfl (pa _) ?_ c9;simp only[Tryz.ntmps135,List.size_toArray,List.length_cons,List.length_nil,Nat.reduceAdd,Nat.reduceSub,Array.replicate_succ,Array.replicate_zero,List.push_toArray,List.append_toArray,List.nil_append,List.cons_append];have eX:Bl w (w.alloc (.cells #[.pointer (some ⟨P,0,none⟩)] 65)):=(bQ _ w).alloc (nR _) _;have br:=h.below eX;have iq:=Boxed.new w 65 (.pointer (some ⟨P,0,none⟩));have jx:(w.alloc (.cells #[.pointer (some ⟨P,0,none⟩)] 65)).heap.size=w.heap.size+1:=by simp
 by_cases hc:cu f b=1
 ·have hL:letGo f b=freeB f b:=by unfold letGo;rw[if_pos hc]
  rw[if_pos hc,hL];rw[hc]at kz;gi_wp2_with fail;refine(hW (aJS _ ρ P A f J b br hz (by omega) d9)).mono ?_;rintro e w2 ⟨rfl,ρ2,ax,li⟩;gi_wp2;refine⟨.tuple #[],by simp[results,Tryz.f135,go_sem],rfl,ρ2,_,ax,(Mv.of_below eX).trans li (fun _ _ e=>e),(JS.save d9).trans (JS.freeB Tch.saved) |>.up (by omega),?_⟩;exact((hz.setC b (v:=0) (by omega) (by have:=hz.cb b;omega)).noN b).up (by omega)
 ·rw[if_neg hc,aEM hc hb]
  gi_wp2_with fail
  refine(hW (lV _ ρ P A f J b br hz d9 (by omega))).mono ?_;rintro e w2 ⟨rfl,ρ2,ax,li,ze,-⟩;obtain⟨ja2,jp2,jj2,gi,nu⟩:=id ax;obtain⟨n3,n4,n5,n7⟩:=gi.cells;have JF:=gi.count d9;have Je:w2.frozen? ⟨A.c,b,none⟩=false:=gi.hc.frozen b;have fv:Boxed w2 w.heap.size 65 (.pointer (some ⟨P,0,none⟩)):=(li.frm.block _ iq.lt (fun e=>e.elim (fun e=>e (Nat.eq_zero_of_not_pos fun q=>absurd (hR.own _ (by omega)) (Nat.lt_irrefl _))) (fun e=>e))).trans iq;have QF:=fv.cell;obtain⟨cy,E2⟩:=ax.setC (b:=b) d9 (cu f b-1);obtain⟨ja3,jp3,jj3,qn,vf⟩:=id cy;have sc:=hz.cb b;have wt:IntKind.i64.wrap (cu f b-1)=cu f b-1:=IntWalk.i64_in _ ⟨by omega,by omega⟩;obtain⟨q,hφ,ww,wu,junk,hN⟩:=qn.nd b d hb;have gx:=qn.hm.lookup b (by have:=hz.n512;omega);rw[hφ]at gx;have o3:(w2.setCell ⟨A.c,b,none⟩ (.int .i64 (cu f b-1))).cell? ⟨P,3,none⟩=some (.map (some A.m)):=qn.cells.m3;have av:w.heap.size≠A.c:=by omega
  have ki:Boxed (w2.setCell ⟨A.c,b,none⟩ (.int .i64 (cu f b-1))) w.heap.size 65 (.pointer (some ⟨P,0,none⟩)):=(aZ _ _ av).trans fv;have QG:=ki.cell;generalize Aq:w2.setCell ⟨A.c,b,none⟩ (.int .i64 (cu f b-1))=w3 at *;simp only[eT,Option.map_some]at gx;gi_wp2_with (gi_at_call 59;refine(kO F (n-1) (pa _) c9 _ _).mono ?_;rintro e w' ⟨rfl,rfl⟩);have XZ:w.heap.size+1≤w2.heap.size:=by have:=li.frm.size;omega
  have Xb:w3.heap.size=w2.heap.size:=by rw[←Aq];exact cZ (g:=A.c) [_] w2 b
  have SH:ρ2 w.heap.size=0:=by rw[li.rol _ (by omega) (fun e=>e)];exact Nat.eq_zero_of_not_pos fun q=>absurd (hR.own _ (by omega)) (Nat.lt_irrefl _)
  have Ye:ρ2 w3.heap.size=0:=Nat.eq_zero_of_not_pos fun q=>absurd (qn.own _ (by omega)) (Nat.lt_irrefl _);have Ew:Mv (fun _=>False) w ρ w3 ρ2:=((Mv.of_below eX).trans li (fun _ _ e=>e)).trans E2 (fun _ _ e=>e);have Pj:JS 1 f J (setC f b (cu f b-1)) (J++[(b,cu f b,f.nodes b)]):=(JS.save d9).trans (JS.setC _ Tch.saved);have dq:Bl w3 (w3.alloc (.cells #[.pointer (some ⟨q,0,none⟩)] 112)):=(bQ _ w3).alloc (nR _) _;have aw:=cy.below dq;have Dp:=hN.below dq;have kj:Boxed (w3.alloc (.cells #[.pointer (some ⟨q,0,none⟩)] 112)) w.heap.size 65 (.pointer (some ⟨P,0,none⟩)):=ki.alloc _;have Cr:IsC (w3.alloc (.cells #[.pointer (some ⟨q,0,none⟩)] 112)) w3.heap.size #[.pointer (some ⟨q,0,none⟩)] 112:=IsC.new _ _ _;have Al:Mv (fun _=>False) w ρ (w3.alloc (.cells #[.pointer (some ⟨q,0,none⟩)] 112)) ρ2:=Ew.trans (Mv.of_below dq) (fun _ _ e=>e);have Rt:(w3.alloc (.cells #[.pointer (some ⟨q,0,none⟩)] 112)).heap.size=w3.heap.size+1:=by simp
  have Wo:A.m<w3.heap.size:=qn.hm.lt;clear gx o3 QG QF Je JF n3 n4 n5 n7 gi nu hN ki fv cy vf Ew dq E2 li ax ze;generalize In:w3.alloc (.cells #[.pointer (some ⟨q,0,none⟩)] 112)=w4 at *;have C1:q<w4.heap.size:=Dp.box.lt;refine jB c9 nk (gf:=82) (lb:=#[.pointer (some ⟨w3.heap.size,0,none⟩)]) rfl (pa _) (enters_of Tryz.func82 (by kernel_rfl) rfl)
   (jT F (n-1) (pa _) c9 (by omega) w3.heap.size q d (A.α b) junk fj Av w4 Cr Dp) KpC.trans (KpC.put Cr.lt C1 (fun g e=>(Dp.arr g e).1.lt)) (bQ _ _) rfl
   (fun pre W=>(∃ρ1 J1,St W ρ1 P A (gW f b pre) J1∧Mv (fun _=>False) w4 ρ2 W ρ1∧JS (1+pre.length) f J (gW f b pre) J1)∧Boxed W w.heap.size 65 (.pointer (some ⟨P,0,none⟩)))
   ?_ ⟨⟨ρ2,_,aw,Mv.refl _ _ _,Pj⟩,kj⟩ ?_ ?_
  ·refine OwnFrom.and (fun pre X Y row hs hg hr=>?_) ((boxed_own _ _ _).from _)
   obtain⟨ρ1,J1,h1,h2,h3⟩:=hs;exact⟨ρ1,J1,h1.own hg fun r e=>⟨by have:=(hr r e).1;omega,(hr r e).2⟩,h2.own hg fun r e=>(hr r e).1,h3⟩
  ·intro l pre x W hi lg
   gi_wp2
   refine⟨trivial,?_⟩;clear hi;rintro W ⟨⟨ρ1,J1,h1,h2,h3⟩,bj⟩;have Xi:x∈kids d:=lg.subset (by simp);have Xh:x<f.cur.length:=pd x Xi;have qf:pre.length+1≤10:=by have:=lg.length_le;have:=rX d;simp at *;omega
   have UI:Sz (K+pre.length) (gW f b pre):=hz.mid ed pre;have GP:x <(gW f b pre).cur.length:=by rw[zH];exact Xh
   have nz:=bj.cell;gi_wp2_with fail;refine⟨fun _=>by omega,(CallsIn.inRound l (hW (lV _ ρ1 P A (gW f b pre) J1 x h1 UI GP (by have:=h3.len;omega)))).mono ?_⟩;rintro e W2 ⟨rfl,ρ3,cq,ng,ze,wm⟩;obtain⟨ja5,jp5,jj5,CJ,Ev⟩:=id cq;obtain⟨n3,n4,n5,n7⟩:=CJ.cells;rw[zH]at n4;have WB:=CJ.count GP;have Mg:W2.frozen? ⟨A.c,x,none⟩=false:=CJ.hc.frozen x;have KJ:∀k,k<w4.heap.size→ρ1 k=ρ2 k:=fun k hk=>h2.rol k hk fun e=>e;have Ri:ρ1 w.heap.size=0:=by rw[KJ _ (by omega)];exact SH
   have q9:Boxed W2 w.heap.size 65 (.pointer (some ⟨P,0,none⟩)):=(wm.block _ bj.lt (by rw[Ri];omega)).trans bj;have Vy:=q9.cell;have Ob:(x:Int) <(f.cur.length:Int):=by omega
   have WA:=UI.cb x;have wt:IntKind.i64.wrap (cu (gW f b pre) x+1)=cu (gW f b pre) x+1:=IntWalk.i64_in _ ⟨by omega,by omega⟩;obtain⟨kv,TW⟩:=cq.setC (b:=x) GP (cu (gW f b pre) x+1);rw[←oZ]at kv;have Fd:JS (1+pre.length+1+0) f J (gW f b (pre++[x])) (J1++[(x,cu (gW f b pre) x,(gW f b pre).nodes x)]):=by
    rw[oZ];exact(h3.trans (JS.save GP)).trans (JS.setC _ Tch.saved)
   have vn:KpC w3.heap.size q (A.α b) W (W2.setCell ⟨A.c,x,none⟩ (.int .i64 (cu (gW f b pre) x+1))):=by
    have Gn:ρ1 A.c=4:=by obtain⟨_,_,_,hh,_⟩:=h1;exact hh.rc
    have hk:∀k,k<w4.heap.size→ρ2 k≠1→ρ2 k≠6→ρ2 k≠4→(W2.setCell ⟨A.c,x,none⟩ (.int .i64 (cu (gW f b pre) x+1))).heap[k]?=W.heap[k]?:=fun k hk e1 e2 e3=>by
     rw[aZ W2 _ (fun e=>e3 (by rw[←KJ k hk,e,Gn])),wm.block k (lL hk h2.frm.size) (by rw[KJ k hk];omega)]
    refine⟨lT wm.size (Nat.le_of_eq (cZ (g:=A.c) [_] W2 x).symm),hk _ Cr.lt (by omega) (by omega) (by omega),hk q C1 ?_ ?_ ?_,fun g e=>hk g (Dp.arr g e).1.lt ?_ ?_ ?_⟩
    ·rw[ww];unfold cE;omega
    ·rw[ww];unfold cE;omega
    ·rw[ww];unfold cE;omega
    ·rw[wu g e];unfold cB;omega
    ·rw[wu g e];unfold cB;omega
    ·rw[wu g e];unfold cB;omega
   have qd:Boxed (W2.setCell ⟨A.c,x,none⟩ (.int .i64 (cu (gW f b pre) x+1))) w.heap.size 65 (.pointer (some ⟨P,0,none⟩)):=(aZ _ _ av).trans q9;have BM:=(h2.trans ng (fun _ _ e=>e)).trans TW (fun _ _ e=>e);have HF:=aA (aI kv (aI Fd (aI vn (aI qd BM))));clear kv Fd vn qd BM TW h1 h2 h3 cq ng CJ Ev bj q9;gi_wp2;obtain⟨kv,Fd,vn,qd,BM⟩:=HF.out;exact⟨(ze.trans (KeepsOthers.setCell _ _ _)).from _,vn,⟨ρ3,_,kv,BM,Fd.up (by simp only[lP,List.length_cons,List.length_nil];omega)⟩,qd⟩
  ·rintro D W hD ⟨⟨ρ1,J1,h1,h2,h3⟩,bj⟩ hK
   gi_wp2
   have bm:W.grownBy (W.putObj D (.deferred none)) (some D):=grownBy_putObj' W D _;refine⟨by simp,.inl ⟨_,_,rfl,run_takeDeferred hK,?_⟩⟩;have mu:=rX d;refine⟨.tuple #[],by simp[results,Tryz.f135,go_sem],rfl,ρ1,J1,h1.own bm fun r e=>?_,?_,h3.up (by omega),(hz.mid ed (kids d)).up (by omega)⟩
   ·cases e;exact⟨by omega,_,hK,rfl⟩
   ·exact(Al.trans h2 (fun _ _ e=>e)).own bm fun r e=>by cases e;have:=Al.frm.size;omega
theorem nU{K:Int}(w:World)(ρ:Nat→Nat)(P:Nat)(A:Adr)(f:fZ)(J:List aQ)(b:Nat)(d:Nd)(h:St w ρ P A f J)(hz:Sz K f)(hK:K≤900000)(ku:J.length≤800000)(hb:f.nodes b=some d)(ed:1≤cu f b)(pd:∀c∈kids d,c<f.cur.length)(Av:d.1=2→∀e∈d.2,0≤e.2.2):
  Calls Tryz.prog 135 #[.pointer (some ⟨P,0,none⟩),.int .i64 b] w fun e w'=>e=.returned (.tuple #[])∧∃ρ' J',St w' ρ' P (if cu f b=1 then gP A b else A) (letGo f b) J'∧Mv (fun _=>False) w ρ w' ρ'∧JS 11 f J (letGo f b) J'∧Sz (K+10) (letGo f b):=
 (callsIn_wide (n:=5)).1 (aHK Fence.wide 5 (fun h=>callsIn_wide.2 h) (fun _=>trivial) rfl (nR _) w ρ P A f J b d h hz hK ku hb ed pd Av)
end Go.Proofs.YtaahkgkdpnnhhaaGreat
namespace Go.Proofs.YtaahkgkdpnnhhaaGreat
open Go.RowKit Fo
theorem aEW:∀(es:List E3) (i j:Nat) (e':E3) (v:Value),i<es.length→j<3→aJ e'=(aJ (es.getD i e0)).set j v→(bW es).setIfInBounds (i*3+j) v=bW (es.set i e'):=by
 have key:∀(es:List E3) (i j:Nat) (e':E3) (v:Value),i<es.length→j<3→aJ e'=(aJ (es.getD i e0)).set j v→(es.flatMap aJ).set (i*3+j) v=(es.set i e').flatMap aJ:=by
  intro es;induction es with
  | nil=>intro i j e' v hi;simp at hi
  | cons e es ih=>
   intro i j e' v hi hj he;have l3:(aJ e).length=3:=rfl;cases i with
   | zero=>
    simp only[List.getD_cons_zero]at he;simp only[List.flatMap_cons,List.set_cons_zero,Nat.zero_mul,Nat.zero_add];rw[List.set_append_left _ _ (by rw[l3];exact hj),he]
   | succ i=>
    simp only[List.getD_cons_succ]at he;simp only[List.flatMap_cons,List.set_cons_succ];rw[List.set_append_right _ _ (by rw[l3];omega),l3,show(i+1)*3+j-3=i*3+j by omega,ih i j e' v (by simpa using hi) hj he]
 intro es i j e' v hi hj he;unfold bW;rw[←key es i j e' v hi hj he];simp
theorem aHY(l:List (Int×Int))(t:Nat)(q:Int)(ht:t<l.length):(cS l).setIfInBounds (t*2+1) (.int .i64 q)=cS (l.set t ((l.getD t (0,0)).1,q)):=by
 have key:∀(l:List (Int×Int)) (t:Nat),t<l.length→(l.flatMap aT).set (t*2+1) (.int .i64 q)=(l.set t ((l.getD t (0,0)).1,q)).flatMap aT:=by
  intro l;induction l with
  | nil=>intro t ht;simp at ht
  | cons e l ih=>
   intro t ht;have l2:(aT e).length=2:=rfl;cases t with
   | zero=>simp[aT]
   | succ t=>
    simp only[List.flatMap_cons,List.set_cons_succ,List.getD_cons_succ];rw[List.set_append_right _ _ (by rw[l2];omega),l2,show(t+1)*2+1-2=t*2+1 by omega,ih t (by simpa using ht)]
 unfold cS;rw[←key l t ht];simp
variable {w w' : World} {ρ : Nat → Nat} {P : Nat} {A : Adr} {f : fZ} {J : List aQ} {jv : Value}
def gS(A:Adr):Fo.Loc→Addr→Prop
 | .inl t,p=>p=⟨A.ra,t*2+1,none⟩
 | .inr (b,i),p=>∃g,A.α b=some g∧p=⟨g,i*3+2,none⟩
theorem aK.setc{q g:Nat}{k:Int}{es junk:List E3}(h:aK w q (k,es) (Option.some g) junk){i j:Nat}{e':E3}{v:Value}(hi:i<es.length)(hj:j<3)(he:aJ e'=(aJ (es.getD i e0)).set j v):aK (w.setCell ⟨g,i*3+j,none⟩ v) q (k,es.set i e') (Option.some g) junk:=by
 obtain⟨h1,h2⟩:=h.arr g rfl;refine⟨by simpa using h.box.set_ne (p:=⟨g,i*3+j,none⟩) v (Ne.symm h2),fun g' e=>?_,fun e=>(by cases e),by simpa using h.small⟩;cases e;refine⟨?_,h2⟩;have:=h1.set (i*3+j) v;rw[aEW _ i j e' v (by simp;omega) hj (by
  rw[he,gD,gD,List.getElem?_append_left hi])]at this
 rw[List.set_append_left _ _ hi]at this;exact this
theorem aEU(h:Rp w ρ P A f jv){b:Nat}{d:Nd}(hb:f.nodes b=some d):jA ρ (A.α b) b=ρ:=by
 obtain⟨q,e1,e2,e3,_⟩:=h.nd b d hb;funext k;by_cases e:A.α b=some k
 ·simp[jA,e,e3 k e]
 ·exact xF e
theorem aDM(A:Adr)(b:Nat):dL A b (A.α b)=A:=by
 have:upd A.α b (A.α b)=A.α:=funext fun x=>by by_cases e:x=b<;>simp[upd,e]
 unfold dL;rw[this]
theorem St.nodeSame(h:St w ρ P A f J){b q:Nat}{d d':Nd}(hb:f.nodes b=some d)(hφ:A.φ b=some q){junk':List E3}(k:Frm (fun x=>x=q∨A.α b=some x) w w')(hN:aK w' q d' (A.α b) junk'):St w' ρ P A (setN f b d') J∧Mv (fun _=>False) w ρ w' ρ:=by
 obtain⟨_,_,_,hR,_⟩:=id h;have:=h.node hb hφ k hN (fun g e=>.inl e);rw[aEU hR hb,aDM]at this;exact this
theorem St.getNode(h:St w ρ P A f J){b:Nat}{d:Nd}(hb:f.nodes b=some d):∃q junk,A.φ b=some q∧ρ q=cE b∧(∀g,A.α b=some g→ρ g=cB b)∧aK w q d (A.α b) junk:=by
 obtain⟨_,_,_,hR,_⟩:=h;obtain⟨q,e1,e2,e3,j,e4⟩:=hR.nd b d hb;exact⟨q,j,e1,e2,e3,e4⟩
theorem St.getLoc(h:St w ρ P A f J)(hI:IC f){L:Fo.Loc}(hL:dO f L){p:Addr}(hp:gS A L p):w.cell? p=some (.int .i64 (bJ f L))∧w.frozen? p=false:=by
 obtain⟨_,_,_,hR,_⟩:=id h;cases L with
 | inl t=>
  subst hp;have ht:t<f.roots.length:=hL;have hm:f.roots.getD t (0,0)∈f.roots:=by rw[gD,gE ht];exact List.getElem_mem _
  refine⟨?_,hR.hr.frozen _⟩;rw[hR.hr.cell,(lE (f.roots++A.rj) (i:=t) (by simp;omega)).2];have e1:(f.roots++A.rj).getD t (0,0)=f.roots.getD t (0,0):=by rw[gD,List.getElem?_append_left ht,←gD]
  rw[e1];simp only[bJ];have:=(hI.rb _ hm).1;rw[show(((f.roots.getD t (0,0)).2.toNat:Nat):Int)=(f.roots.getD t (0,0)).2 by omega]
 | inr bi=>
  obtain⟨b,i⟩:=bi;obtain⟨g,hg,rfl⟩:=hp;obtain⟨hb,es,af,hi⟩:=hL;obtain⟨q,junk,e1,e2,e3,e4⟩:=h.getNode af;rw[hg]at e4;have Dz:=(e4.arr g rfl).1;refine⟨?_,Dz.frozen _⟩;have fe:i <(es++junk).length:=by simp;omega
  rw[(bF Dz fe).2.2];have e5:(es++junk).getD i e0=es.getD i e0:=by rw[gD,List.getElem?_append_left hi,←gD]
  simp only
  rw[e5];simp only[bJ,aE af,ch];have hm:es.getD i e0∈es:=by rw[gD,gE hi];exact List.getElem_mem _
  have:=hI.kb b _ af
  rcases this with h1 | ⟨_,_,h3⟩
  ·simp at h1
  ·have:=(h3 _ hm).1
   rw[show(((es.getD i e0).2.2.toNat:Nat):Int)=(es.getD i e0).2.2 by omega]
theorem St.setLoc(h:St w ρ P A f J){L:Fo.Loc}(hL:dO f L){p:Addr}(hp:gS A L p)(q:Nat):St (w.setCell p (.int .i64 (q:Int))) ρ P A (setL f L q) J∧Mv (fun _=>False) w ρ (w.setCell p (.int .i64 (q:Int))) ρ:=by
 cases L with
 | inl t=>
  subst hp;have ht:t<f.roots.length:=hL;have hc:ρ A.ra=2:=by obtain⟨_,_,_,h1,_⟩:=h;exact h1.rr
  have k:Frm (fun x=>x=A.ra) w (w.setCell ⟨A.ra,t*2+1,none⟩ (.int .i64 (q:Int))):=Frm.set (S:=fun x=>x=A.ra) w (p:=⟨A.ra,t*2+1,none⟩) rfl _;refine⟨h.of k (fun x e=>by rw[e,hc];exact aCU.2) (fun _ _ _=>rfl) fun jv hR=>?_,k.wide (fun x _ e=>.inl (by rw[e,hc];omega)),fun _ _ _=>rfl⟩;have no:∀{x r},ρ x=r→r≠2→¬x=A.ra:=fun {x r} e hr q=>hr (by rw[←e,q,hc]);refine hR.gen (Kp.same hR k) (.inl ⟨no hR.rP (by omega),?_⟩) (.inr ⟨?_,hc⟩) (.inl ⟨no hR.rm (by omega),rfl⟩) rfl (.inl ⟨no hR.rc (by omega),rfl⟩) rfl (.inl ⟨no hR.rd (by omega),rfl,rfl⟩) (fun x d hx=>.inl ⟨hx,rfl,rfl,fun y hy=>?_⟩) hR.no (by simpa [setL] using hR.rs) hR.ds
  ·simp[dC,setL]
  ·have:=hR.hr.set (t*2+1) (.int .i64 (q:Int))
   rw[aHY _ t q (by simp;omega)]at this;have e1:(f.roots++A.rj).getD t (0,0)=f.roots.getD t (0,0):=by rw[gD,List.getElem?_append_left ht,←gD]
   rw[e1,List.set_append_left _ _ ht]at this;exact this
  ·rcases hy with e | e
   ·exact no e (by unfold cE;omega)
   ·exact no e (by unfold cB;omega)
 | inr bi=>
  obtain⟨b,i⟩:=bi;obtain⟨g,hg,rfl⟩:=hp;obtain⟨hb,es,af,hi⟩:=hL;obtain⟨qq,junk,e1,e2,e3,e4⟩:=h.getNode af;rw[hg]at e4;have hN:=e4.setc (v:=.int .i64 (q:Int)) (e':=((es.getD i e0).1,(es.getD i e0).2.1,(q:Int))) hi (by omega:2<3) (by simp[aJ]);have:=h.nodeSame (w':=w.setCell ⟨g,i*3+2,none⟩ (.int .i64 (q:Int))) af e1 (Frm.set w (p:=⟨g,i*3+2,none⟩) (.inr hg) _) (by rw[hg];exact hN);have e5:setL f (.ent b i) q=setN f b (2,es.set i ((es.getD i e0).1,(es.getD i e0).2.1,(q:Int))):=by simp[setL,setE,aE af]
  rw[e5];exact this
end Go.Proofs.YtaahkgkdpnnhhaaGreat
namespace Go.Proofs.YtaahkgkdpnnhhaaGreat
open Go.RowKit Fo
variable{p:Addr}{A B:Adr}{L:Fo.Loc}{K:Int}{P b:Nat}{ρ:Nat→Nat}{X Y:Nat→Prop}{d:Nd}{w:World}{f:fZ}
structure AdS(X:Nat→Prop)(A A':Adr):Prop where
 ra:A'.ra=A.ra
 rj:A'.rj=A.rj
 m:A'.m=A.m
 c:A'.c=A.c
 d:A'.d=A.d
 dj:A'.dj=A.dj
 tv:A'.tv=A.tv
 φ:∀x,¬X x→A'.φ x=A.φ x
 α:∀x,¬X x→A'.α x=A.α x
theorem AdS.refl(X:Nat→Prop)(A:Adr):AdS X A A:=⟨rfl,rfl,rfl,rfl,rfl,rfl,rfl,fun _ _=>rfl,fun _ _=>rfl⟩
theorem AdS.trans{C:Adr}(h:AdS X A B)(k:AdS Y B C):AdS (fun x=>X x∨Y x) A C:=
 ⟨k.ra.trans h.ra,k.rj.trans h.rj,k.m.trans h.m,k.c.trans h.c,k.d.trans h.d,k.dj.trans h.dj,k.tv.trans h.tv,fun x hx=>(k.φ x fun q=>hx (.inr q)).trans (h.φ x fun q=>hx (.inl q)),fun x hx=>(k.α x fun q=>hx (.inr q)).trans (h.α x fun q=>hx (.inl q))⟩
theorem AdS.up(h:AdS X A B)(hX:∀x,X x→Y x):AdS Y A B:={h with φ:=fun x hx=>h.φ x fun q=>hx (hX x q),α:=fun x hx=>h.α x fun q=>hx (hX x q)}
theorem AdS.put(A:Adr)(b q:Nat)(a:Option Nat):AdS (fun x=>x=b) A (cV A b q a):=⟨rfl,rfl,rfl,rfl,rfl,rfl,rfl,fun x hx=>aC _ _ hx,fun x hx=>aC _ _ hx⟩
theorem AdS.del(A:Adr)(b:Nat):AdS (fun x=>x=b) A (gP A b):=⟨rfl,rfl,rfl,rfl,rfl,rfl,rfl,fun x hx=>aC _ _ hx,fun _ _=>rfl⟩
theorem AdS.arr(A:Adr)(b:Nat)(a:Option Nat):AdS (fun x=>x=b) A (dL A b a):=⟨rfl,rfl,rfl,rfl,rfl,rfl,rfl,fun _ _=>rfl,fun x hx=>aC _ _ hx⟩
structure Dn(k:Nat)(X:Nat→Prop)(w:World)(ρ:Nat→Nat)(P:Nat)(A:Adr)(f:fZ)(J:List aQ)(w':World)(ρ':Nat→Nat)(A':Adr)(g:fZ)(J':List aQ):Prop where
 st:St w' ρ' P A' g J'
 mv:Mv (fun _=>False) w ρ w' ρ'
 js:JS k f J g J'
 ad:AdS X A A'
structure Pk(k:Nat)(w:World)(ρ:Nat→Nat)(P:Nat)(f:fZ)(J:List aQ)(e:Ending)(w':World):Prop where
 e:e=aBH
 ex:∃ρ' A' g J',St w' ρ' P A' g J'∧Mv (fun _=>False) w ρ w' ρ'∧JS k f J g J'
theorem Dn.below{k:Nat}{w1 w2:World}{ρ1:Nat→Nat}{A1:Adr}{g:fZ}{J J1:List aQ}(h:Dn k X w ρ P A f J w1 ρ1 A1 g J1)(hb:Bl w1 w2):Dn k X w ρ P A f J w2 ρ1 A1 g J1:=
 ⟨h.st.below hb,h.mv.trans (Mv.of_below hb) (fun _ _ e=>e),h.js,h.ad⟩
theorem below_drewN(w:World)(n:Nat):Bl w (w.drewN n):=⟨rfl,rfl,rfl,nR _,fun _ _=>rfl⟩
structure ShP(w:World)(ρ:Nat→Nat)(P:Nat)(A:Adr)(f:fZ)(J:List aQ)(L:Fo.Loc)(K:Int)(e:Ending)(w':World):Prop where
 no:shadow f L=none→Pk 0 w ρ P f J e w'
 yes:∀g c,shadow f L=some (g,c)→∃ρ' A' J' q,e=.returned (.pointer (some ⟨q,0,none⟩))∧A'.φ c=some q∧Dn 12 (fun x=>x=c∨x=bJ f L) w ρ P A f J w' ρ' A' g J'∧Tch c J'∧Sz (K+10) g
theorem aDB(h:IC f)(hb:f.nodes b=some d):d.1=2→∀e∈d.2,0≤e.2.2:=fun h2 e he=>by
 rcases h.kb b d hb with q | ⟨_,_,q⟩
 ·omega
 ·exact(q e he).1
theorem aHN(hI:IC f)(hL:dO f L):∃d,f.nodes (bJ f L)=some d:=by
 cases L with
 | inl t=>
  have ht:t<f.roots.length:=hL;have hm:f.roots.getD t (0,0)∈f.roots:=by rw[gD,gE ht];exact List.getElem_mem _
  exact hI.root_live hm
 | inr bi=>
  obtain⟨b,i⟩:=bi;obtain⟨hb,es,af,hi⟩:=hL;refine hI.kid_live af (c:=bJ f (.ent b i)) ?_;simp only[bJ,aE af];exact gL hi
theorem jJ(hL:dO f L)(q:Nat):bJ (setL f L q) L=q∧dO (setL f L q) L:=by
 cases L with
 | inl t=>
  have ht:t<f.roots.length:=hL;refine⟨?_,by show t <(f.roots.set t _).length;simpa using ht⟩;show((f.roots.set t ((f.roots.getD t (0,0)).1,(q:Int))).getD t (0,0)).2.toNat=q
  rw[bB _ _ _ _ _ ht,if_pos rfl];simp
 | inr bi=>
  obtain⟨b,i⟩:=bi;obtain⟨hb,es,af,hi⟩:=hL;have e5:setL f (.ent b i) q=setN f b (2,es.set i ((es.getD i e0).1,(es.getD i e0).2.1,(q:Int))):=by simp[setL,setE,aE af]
  have hn:(setL f (.ent b i) q).nodes b=some (2,es.set i ((es.getD i e0).1,(es.getD i e0).2.1,(q:Int))):=by rw[e5];exact aD _ _ _
  refine⟨?_,by rw[e5];exact⟨hb,_,aD _ _ _,by simpa using hi⟩⟩;simp only[bJ,aE hn];rw[bB _ _ _ _ _ hi,if_pos rfl];simp[ch]
theorem zD(hL:dO f L){q:Nat}(hq:f.nodes q=none)(d:Nd):dO (takeAt f q d) L:=by
 cases L with
 | inl t=>exact hL
 | inr bi=>
  obtain⟨b,i⟩:=bi;obtain⟨hb,es,af,hi⟩:=hL;refine⟨by simpa [takeAt] using hb,es,?_,hi⟩;show upd f.nodes q (some d) b=_
  rw[aC _ _ (fun e=>by rw[e,hq]at af;cases af)];exact af
theorem vE(hL:dO f L)(hb:∀b' i,L=.ent b' i→b'≠b):dO (letGo f b) L∧bJ (letGo f b) L=bJ f L:=by
 cases L with
 | inl t=>exact⟨by show t <(letGo f b).roots.length;rw[dS];exact hL,by simp only[bJ,dS]⟩
 | inr bi=>
  obtain⟨b',i⟩:=bi;obtain⟨h1,es,af,hi⟩:=hL;have hn:(letGo f b).nodes b'=some (2,es):=by
   rw[cP];split
   ·rw[aC _ _ (hb b' i rfl)];exact af
   ·exact af
  exact⟨⟨by rw[gY];exact h1,es,hn,hi⟩,by simp only[bJ,aE hn,aE af]⟩
theorem St.locCell{J:List aQ}(h:St w ρ P A f J)(hL:dO f L)(hp:gS A L p):∃v,w.cell? p=some (.int .i64 v)∧w.frozen? p=false∧(0≤v→v=(bJ f L:Int)):=by
 obtain⟨_,_,_,hR,_⟩:=id h;cases L with
 | inl t=>
  subst hp;have ht:t<f.roots.length:=hL;refine⟨((f.roots++A.rj).getD t (0,0)).2,?_,hR.hr.frozen _,?_⟩
  ·rw[hR.hr.cell,(lE (f.roots++A.rj) (i:=t) (by simp;omega)).2]
  ·have e1:(f.roots++A.rj).getD t (0,0)=f.roots.getD t (0,0):=by rw[gD,List.getElem?_append_left ht,←gD]
   rw[e1];intro q;simp only[bJ];omega
 | inr bi=>
  obtain⟨b,i⟩:=bi;obtain⟨g,hg,rfl⟩:=hp;obtain⟨hb,es,af,hi⟩:=hL;obtain⟨q,junk,e1,e2,e3,e4⟩:=h.getNode af;rw[hg]at e4;have Dz:=(e4.arr g rfl).1;refine⟨_,(bF Dz (i:=i) (by simp;omega)).2.2,Dz.frozen _,?_⟩;have e5:(es++junk).getD i e0=es.getD i e0:=by rw[gD,List.getElem?_append_left hi,←gD]
  simp only
  rw[e5];intro q;simp only[bJ,aE af,ch];omega
theorem wR{A':Adr}(h:AdS X A A')(hp:gS A L p)(hX:∀b i,L=.ent b i→¬X b):gS A' L p:=by
 cases L with
 | inl t=>have FC:p=⟨A.ra,t*2+1,none⟩:=hp;show p=⟨A'.ra,_,none⟩;rw[h.ra];exact FC
 | inr bi=>
  obtain⟨b,i⟩:=bi;obtain⟨g,hg,e⟩:=hp;exact⟨g,by rw[h.α b (hX b i rfl)];exact hg,e⟩
theorem Sz.takeAt(h:Sz K f)(hK:1≤K)(hb:b<f.cur.length)(hd:d.2.length≤10):Sz K (takeAt f b d):=(h.setN hb hd).setC b (v:=1) (by omega) hK
theorem Sz.setL(h:Sz K f)(hL:dO f L)(q:Nat):Sz K (setL f L q):=by
 cases L with
 | inl t=>exact h.of rfl rfl h.cb fun _ _ q=>.inl q
 | inr bi=>
  obtain⟨b,i⟩:=bi;obtain⟨hb,es,af,hi⟩:=hL;have:=h.ent b _ af;exact h.setN hb (by simpa [setE,aE af] using this)
theorem iE(w:World)(ρ:Nat→Nat)(P:Nat)(A:Adr)(f:fZ)(J:List aQ)(L:Fo.Loc)(p:Addr)(h:St w ρ P A f J)(hI:IC f)(hz:Sz K f)(sw:1≤K)(hK:K≤800000)(ku:J.length≤700000)(hL:dO f L)(hp:gS A L p)(qv:∀b i,L=.ent b i→Tch b J):
  Calls Tryz.prog 115 #[.pointer (some ⟨P,0,none⟩),.pointer (some p)] w (ShP w ρ P A f J L K):=by
 obtain⟨d,hd⟩:=aHN hI hL;obtain⟨iv,oa⟩:=h.getLoc hI hL hp;obtain⟨b,hb⟩:=eZ (bJ f L);rw[hb]at hd iv;have d9:b<f.cur.length:=hz.lt b d hd;have DN:(b:Int) <(f.cur.length:Int):=by omega
 have V5:(b:Int) <(f.com.length:Int):=by have:=hz.com;omega
 obtain⟨ja,jp,jj,hR,hJ⟩:=id h;obtain⟨m3,m4,m5,m7⟩:=hR.cells;have kz:=hR.count d9;have Ct:w.cell? ⟨A.d,b,none⟩=some (.int .i64 (co f b)):=aLN hR.hd (by rw[hz.com];exact d9);obtain⟨q,junk,hφ,ww,wu,hN⟩:=h.getNode hd;go_enter Tryz.func115,Tryz.ntmps115;by_cases ho:own f b
 ·have al:shadow f L=some (f,b):=by unfold shadow;rw[hb,if_pos ho]
  obtain⟨o1,o2⟩:=ho;rw[o1]at kz;rw[o2]at Ct;go_wp2_with fail;refine(lV _ ρ P A f J b h hz d9 (by omega)).mono ?_;rintro e w2 ⟨rfl,ρ2,ax,li,-,-⟩;obtain⟨ja2,jp2,jj2,gi,nu⟩:=id ax;obtain⟨n3,n4,n5,n7⟩:=gi.cells;have gx:=gi.hm.lookup b (by have:=hz.n512;omega);rw[hφ]at gx;simp only[eT,Option.map_some]at gx;go_wp2;go_ret;refine⟨fun q=>(by rw[al]at q;cases q),fun g c bp=>?_⟩;rw[al]at bp;cases bp;exact⟨ρ2,A,_,q,rfl,hφ,⟨ax,li,(JS.save d9).up (by omega),AdS.refl _ _⟩,Tch.saved,hz.up (by omega)⟩
 ·have gx:=hR.hm.lookup b (by have:=hz.n512;omega)
  rw[hφ]at gx;simp only[eT,Option.map_some]at gx;have iN:(cu f b≠1)∨(cu f b=1∧co f b≠0):=by
   by_cases c1:cu f b=1
   ·exact .inr ⟨c1,fun c2=>ho ⟨c1,c2⟩⟩
   ·exact .inl c1
  have HN:=aA hN;have SO:Hid (1≤cu f b):=by have:=hI.cu_pos hd;show 1≤cu f b;omega
  have fj:=hz.ent b d hd;have FM:∀x,w.heap.size≤x→ρ x=0:=fun x hx=>Nat.eq_zero_of_not_pos fun q=>absurd (hR.own x (by omega)) (by omega);have Kk:∀b' i,L=.ent b' i→b'≠b:=fun b' i e e'=>by
   subst e;subst e';obtain⟨_,es,af,hi⟩:=hL;have hm:bJ f (.ent b' i)∈kids (2,es):=by simp only[bJ,aE af];exact gL hi
   rw[hb]at hm;exact hI.not_self af hm
  have sc:=hz.cb b;rcases iN with c1 | ⟨c1,c2⟩
  ·have c1':(cu f b == 1)=false:=by simpa using c1
   go_wp2_with fail
   refine(mG q d (A.α b) junk _ hN fj).mono ?_;rintro e w1 ⟨u,rfl,⟨q1,a1,j1,rfl,k1,k2,k3⟩,hB⟩;have br:=h.below hB;go_wp2_with fail;refine(oI w1 ρ P A f J q1 d a1 j1 br hz (by omega) (by omega) k3 (FM q1 k1) (fun g e=>FM g (k2 g e))).mono ?_;intro e w2 hT;by_cases hl:aF f=0
   ·obtain⟨rfl,db⟩:=hT.no hl
    have al:shadow f L=none:=by unfold shadow;rw[hb,if_neg ho,if_pos hl]
    exact⟨rfl,fun _=>⟨rfl,ρ,A,f,J,br.below db,(Mv.of_below hB).trans (Mv.of_below db) (fun _ _ e=>e),JS.refl _ _⟩,fun g c bp=>by rw[al]at bp;cases bp⟩
   ·obtain⟨rfl,ρ2,ax,li,-⟩:=hT.yes hl
    have al:shadow f L=some (shadowAt f L (aF f),aF f):=by unfold shadow;rw[hb,if_neg ho,if_neg hl]
    obtain⟨l1,l2,l3,l4⟩:=aR hl;have dh:f.nodes (aF f)=none:=(hI.dom.dead _).2 l3;generalize aF f=z at *;have DO:b≠z:=fun e=>by rw[e,dh]at hd;cases hd
    have qy:Mv (fun _=>False) w ρ w2 ρ2:=((Mv.of_below (X:=fun x=>x=q1∨a1=some x) (ρ:=ρ) hB).trans li (fun _ _ e=>e)).up fun x hx e=>by
     rcases e with e | e
     ·omega
     ·have:=k2 x e;omega
    have Dl:=zD hL dh d;have Bp:gS (cV A z q1 a1) L p:=wR (AdS.put A z q1 a1) hp fun b' i e e'=>by
     subst e;subst e';obtain⟨_,es,af,hi⟩:=hL;rw[dh]at af;cases af
    obtain⟨v2,jg,xx,-⟩:=ax.locCell Dl Bp;obtain⟨cy,Ew⟩:=ax.setLoc Dl Bp z;have vq:Sz K (setL (takeAt f z d) L z):=(hz.takeAt sw l2 fj).setL Dl z;have EM:(setL (takeAt f z d) L z).nodes b=some d:=by
     have e1:(takeAt f z d).nodes b=some d:=by show upd f.nodes z (some d) b=_;rw[aC _ _ DO];exact hd
     cases L with
     | inl t=>exact e1
     | inr bi=>obtain⟨b',i⟩:=bi;exact(aC _ _ (Ne.symm (Kk b' i rfl))).trans e1
    have JO:cu (setL (takeAt f z d) L z) b=cu f b:=by
     unfold cu;rw[bG];exact jH f 1 DO
    have vf:JS 1 f J (setL (takeAt f z d) L z) (J++[(z,cu f z,f.nodes z)]):=((JS.save l2).trans (JS.takeAt d Tch.saved)).trans (JS.setL L z fun b' i e=>(JS.save l2).tch b' (qv b' i e));have pd:∀c∈kids d,c <(setL (takeAt f z d) L z).cur.length:=fun c hc=>by rw[bG];simpa [takeAt] using hI.kid_lt hd hc
    go_wp2_with fail
    refine(nU _ ρ2 P (cV A z q1 a1) (setL (takeAt f z d) L z) (J++[(z,cu f z,f.nodes z)]) b d cy vq (by omega) (by simp;omega) EM (by rw[JO];exact SO.out) pd (aDB hI hd)).mono ?_;rintro e w4 ⟨rfl,ρ4,J4,aw,Al,CE,i5⟩;have Qp:letGo (setL (takeAt f z d) L z) b=shadowAt f L z:=by unfold shadowAt;rw[hb,aE hd]
    have Fe:=vE (jJ Dl z).2 Kk;rw[(jJ Dl z).1]at Fe;have ID:AdS (fun x=>x=z∨x=b) A (if cu (setL (takeAt f z d) L z) b=1 then gP (cV A z q1 a1) b else cV A z q1 a1):=by
     split
     ·exact(AdS.put A z q1 a1).trans (AdS.del _ b)
     ·exact(AdS.put A z q1 a1).up fun x e=>.inl e
    have rx:(if cu (setL (takeAt f z d) L z) b=1 then gP (cV A z q1 a1) b else cV A z q1 a1).φ z=some q1:=by
     split
     ·show upd (upd A.φ z (some q1)) b none z=_
      rw[aC _ _ (Ne.symm DO),aD]
     ·exact aD _ _ _
    generalize (if cu (setL (takeAt f z d) L z) b=1 then gP (cV A z q1 a1) b else cV A z q1 a1)=A4 at *;rw[Qp]at aw CE i5 Fe;have RX:gS A4 L p:=wR ID hp fun b' i e e'=>by
     rcases e' with e' | e'
     ·subst e;subst e'
      obtain⟨_,es,af,hi⟩:=hL;rw[dh]at af;cases af
     ·exact Kk b' i e e'
    obtain⟨I1,-⟩:=hI.shadow hL hb hd l1 l2 l3;obtain⟨QM,WM⟩:=aw.getLoc I1 Fe.1 RX;rw[Fe.2]at QM;obtain⟨ja4,jp4,jj4,lj,IU⟩:=id aw;have o3:=lj.cells.m3;have RL:∀n,(Instr.lookup 68 (.map (some A4.m)) (.int .i64 z) false).run Tryz.prog (w4.drewN n)=.ok (.pointer (some ⟨q1,0,none⟩)) (w4.drewN n):=fun n=>by
     have:=(lj.hm.of (w':=w4.drewN n) rfl).lookup z (by have:=hz.n512;omega)
     rw[rx]at this;simpa only[eT,Option.map_some] using this
    have py:Dn 12 (fun x=>x=z∨x=b) w ρ P A f J w4 ρ4 A4 (shadowAt f L z) J4:=⟨aw,(qy.trans Ew (fun _ _ e=>e)).trans Al (fun _ _ e=>e),vf.trans CE |>.up (by omega),ID⟩;have BP:Tch z J4:=CE.tch z Tch.saved;have HF:=aA (aI py (aI BP i5));clear py i5 BP CE aw Al vf cy Ew li qy lj IU hT ax;go_wp2;go_quiet (fail);go_wp2;go_ret;obtain⟨py,BP,i5⟩:=HF.out;refine⟨fun q=>(by rw[al]at q;cases q),fun g c bp=>?_⟩;rw[al]at bp;cases bp;exact⟨ρ4,A4,J4,q1,rfl,rx,by rw[hb];exact py.below (below_drewN _ _),BP,i5⟩
  ·have c2':(co f b == 0)=false:=by simpa using c2
   rw[c1]at kz;have HC:=aA c1;clear c1;go_wp2_with fail;refine(mG q d (A.α b) junk _ hN fj).mono ?_;rintro e w1 ⟨u,rfl,⟨q1,a1,j1,rfl,k1,k2,k3⟩,hB⟩;have br:=h.below hB;go_wp2_with fail;refine(oI w1 ρ P A f J q1 d a1 j1 br hz (by omega) (by omega) k3 (FM q1 k1) (fun g e=>FM g (k2 g e))).mono ?_;intro e w2 hT;by_cases hl:aF f=0
   ·obtain⟨rfl,db⟩:=hT.no hl
    have al:shadow f L=none:=by unfold shadow;rw[hb,if_neg ho,if_pos hl]
    exact⟨rfl,fun _=>⟨rfl,ρ,A,f,J,br.below db,(Mv.of_below hB).trans (Mv.of_below db) (fun _ _ e=>e),JS.refl _ _⟩,fun g c bp=>by rw[al]at bp;cases bp⟩
   ·obtain⟨rfl,ρ2,ax,li,-⟩:=hT.yes hl
    have al:shadow f L=some (shadowAt f L (aF f),aF f):=by unfold shadow;rw[hb,if_neg ho,if_neg hl]
    obtain⟨l1,l2,l3,l4⟩:=aR hl;have dh:f.nodes (aF f)=none:=(hI.dom.dead _).2 l3;generalize aF f=z at *;have DO:b≠z:=fun e=>by rw[e,dh]at hd;cases hd
    have qy:Mv (fun _=>False) w ρ w2 ρ2:=((Mv.of_below (X:=fun x=>x=q1∨a1=some x) (ρ:=ρ) hB).trans li (fun _ _ e=>e)).up fun x hx e=>by
     rcases e with e | e
     ·omega
     ·have:=k2 x e;omega
    have Dl:=zD hL dh d;have Bp:gS (cV A z q1 a1) L p:=wR (AdS.put A z q1 a1) hp fun b' i e e'=>by
     subst e;subst e';obtain⟨_,es,af,hi⟩:=hL;rw[dh]at af;cases af
    obtain⟨v2,jg,xx,-⟩:=ax.locCell Dl Bp;obtain⟨cy,Ew⟩:=ax.setLoc Dl Bp z;have vq:Sz K (setL (takeAt f z d) L z):=(hz.takeAt sw l2 fj).setL Dl z;have EM:(setL (takeAt f z d) L z).nodes b=some d:=by
     have e1:(takeAt f z d).nodes b=some d:=by show upd f.nodes z (some d) b=_;rw[aC _ _ DO];exact hd
     cases L with
     | inl t=>exact e1
     | inr bi=>obtain⟨b',i⟩:=bi;exact(aC _ _ (Ne.symm (Kk b' i rfl))).trans e1
    have JO:cu (setL (takeAt f z d) L z) b=cu f b:=by
     unfold cu;rw[bG];exact jH f 1 DO
    have vf:JS 1 f J (setL (takeAt f z d) L z) (J++[(z,cu f z,f.nodes z)]):=((JS.save l2).trans (JS.takeAt d Tch.saved)).trans (JS.setL L z fun b' i e=>(JS.save l2).tch b' (qv b' i e));have pd:∀c∈kids d,c <(setL (takeAt f z d) L z).cur.length:=fun c hc=>by rw[bG];simpa [takeAt] using hI.kid_lt hd hc
    go_wp2_with fail
    refine(nU _ ρ2 P (cV A z q1 a1) (setL (takeAt f z d) L z) (J++[(z,cu f z,f.nodes z)]) b d cy vq (by omega) (by simp;omega) EM (by rw[JO];exact SO.out) pd (aDB hI hd)).mono ?_;rintro e w4 ⟨rfl,ρ4,J4,aw,Al,CE,i5⟩;have Qp:letGo (setL (takeAt f z d) L z) b=shadowAt f L z:=by unfold shadowAt;rw[hb,aE hd]
    have Fe:=vE (jJ Dl z).2 Kk;rw[(jJ Dl z).1]at Fe;have ID:AdS (fun x=>x=z∨x=b) A (if cu (setL (takeAt f z d) L z) b=1 then gP (cV A z q1 a1) b else cV A z q1 a1):=by
     split
     ·exact(AdS.put A z q1 a1).trans (AdS.del _ b)
     ·exact(AdS.put A z q1 a1).up fun x e=>.inl e
    have rx:(if cu (setL (takeAt f z d) L z) b=1 then gP (cV A z q1 a1) b else cV A z q1 a1).φ z=some q1:=by
     split
     ·show upd (upd A.φ z (some q1)) b none z=_
      rw[aC _ _ (Ne.symm DO),aD]
     ·exact aD _ _ _
    generalize (if cu (setL (takeAt f z d) L z) b=1 then gP (cV A z q1 a1) b else cV A z q1 a1)=A4 at *;rw[Qp]at aw CE i5 Fe;have RX:gS A4 L p:=wR ID hp fun b' i e e'=>by
     rcases e' with e' | e'
     ·subst e;subst e'
      obtain⟨_,es,af,hi⟩:=hL;rw[dh]at af;cases af
     ·exact Kk b' i e e'
    obtain⟨I1,-⟩:=hI.shadow hL hb hd l1 l2 l3;obtain⟨QM,WM⟩:=aw.getLoc I1 Fe.1 RX;rw[Fe.2]at QM;obtain⟨ja4,jp4,jj4,lj,IU⟩:=id aw;have o3:=lj.cells.m3;have RL:∀n,(Instr.lookup 68 (.map (some A4.m)) (.int .i64 z) false).run Tryz.prog (w4.drewN n)=.ok (.pointer (some ⟨q1,0,none⟩)) (w4.drewN n):=fun n=>by
     have:=(lj.hm.of (w':=w4.drewN n) rfl).lookup z (by have:=hz.n512;omega)
     rw[rx]at this;simpa only[eT,Option.map_some] using this
    have py:Dn 12 (fun x=>x=z∨x=b) w ρ P A f J w4 ρ4 A4 (shadowAt f L z) J4:=⟨aw,(qy.trans Ew (fun _ _ e=>e)).trans Al (fun _ _ e=>e),vf.trans CE |>.up (by omega),ID⟩;have BP:Tch z J4:=CE.tch z Tch.saved;have HF:=aA (aI py (aI BP i5));clear py i5 BP CE aw Al vf cy Ew li qy lj IU hT ax;go_wp2;go_quiet (fail);go_wp2;go_ret;obtain⟨py,BP,i5⟩:=HF.out;refine⟨fun q=>(by rw[al]at q;cases q),fun g c bp=>?_⟩;rw[al]at bp;cases bp;exact⟨ρ4,A4,J4,q1,rfl,rx,by rw[hb];exact py.below (below_drewN _ _),BP,i5⟩
