import Derived.Test.YtmpagpeenjddgaaGreatFo1
set_option linter.all false
namespace Go.Proofs.YtmpagpeenjddgaaGreat.Fo
def aB(f:fZ)(t:Nat):Nat:=(f.r.getD t (0,0)).2.toNat
theorem aQ{f:fZ}{t:Nat}(h:t<f.r.length):f.r.getD t (0,0)∈f.r:=by
 rw[gD,gE h];exact List.getElem_mem h
def aO(f:fZ)(t H:Nat):List Nat->Nat->Nat->OB->OB->Prop
 | [],b,h,lo,hi=>cu f (aB f t)=1/\b=aB f t/\h=H/\lo=none/\hi=none
 | q :: P,c,h,lo,hi=>∃lo0 GC es i,aO f t H P q (h+1) lo0 GC/\f.n q=some (2,es)/\i<es.length/\cu f (kd es i)=1/\c=kd es i/\lo=some (ky es i)/\hi=nxt es i GC
theorem aO.here{f:fZ}{t H:Nat}(h:cu f (aB f t)=1):aO f t H [] (aB f t) H none none:=⟨h,rfl,rfl,rfl,rfl⟩
theorem aO.down{f:fZ}{t H:Nat}{P:List Nat}{b h:Nat}{lo hi:OB}{es:List E3}{i:Nat}(p:aO f t H P b (h+1) lo hi)(hn:f.n b=some (2,es))(hi':i<es.length)(hc:cu f (kd es i)=1):aO f t H (b :: P) (kd es i) h (some (ky es i)) (nxt es i hi):=⟨lo,hi,es,i,p,hn,hi',hc,rfl,rfl,rfl⟩
theorem aO.ind{f:fZ}{t H:Nat}{motive:∀(P:List Nat) (b h:Nat) (lo hi:OB),aO f t H P b h lo hi->Prop}(here:∀h:cu f (aB f t)=1,motive [] (aB f t) H none none (aO.here h))
  (down:∀{P:List Nat} {b h:Nat} {lo hi:OB} {es:List E3} {i:Nat} (p:aO f t H P b (h+1) lo hi) (hn:f.n b=some (2,es)) (hi':i<es.length) (hc:cu f (kd es i)=1),motive P b (h+1) lo hi p->motive (b :: P) (kd es i) h (some (ky es i)) (nxt es i hi) (aO.down p hn hi' hc)):
  ∀{P:List Nat} {b h:Nat} {lo hi:OB} (p:aO f t H P b h lo hi),motive P b h lo hi p:=by
 intro P;induction P with
 | nil=>
  intro b h lo hi p;obtain⟨a,rfl,rfl,rfl,rfl⟩:=p;exact here a
 | cons q P ih=>
  intro b h lo hi p;obtain⟨e,g,es,i,p,a,c,d,rfl,rfl,rfl⟩:=p;exact down p a c d (ih p)
section
variable {f : fZ} {t H : Nat}
theorem aO.named(h:IC f)(ht:t<f.r.length){P:List Nat}{b hb:Nat}{lo hi:OB}(p:aO f t H P b hb lo hi):
  ∀y∈b :: P,cu f y=1/\(∀x d,f.n x=some d->y∈kids d->x∈P)/\(y=aB f t\/rc f.r y=0):=by
 induction p using aO.ind with
 | here c=>
  intro y a;simp only[List.mem_cons,List.not_mem_nil,or_false]at a;subst a;exact⟨c,fun x d g e=>absurd e ((h.aD (aQ ht) c).2 x d g),.inl rfl⟩
 | @down P b o lo hi es i p n hi' c ih=>
  intro y a;rcases List.mem_cons.1 a with rfl | a
  ·have j:=h.only c n (aR hi')
   exact⟨c,fun x d g e=>by rw[j.2.2 x d g e];exact List.mem_cons_self,.inr j.1⟩
  ·obtain⟨k,l,m⟩:=ih y a
   exact⟨k,fun x d g e=>List.mem_cons_of_mem _ (l x d g e),m⟩
theorem aO.high{xd:Nat->Nat}(d:Hts f.n xd){P:List Nat}{b hb:Nat}{lo hi:OB}(p:aO f t H P b hb lo hi):∀y∈P,xd b<xd y:=by
 induction p using aO.ind with
 | here c=>intro y a;simp at a
 | @down P b g lo hi es i p e hi' c ih=>
  intro y a;have h:=eR (d b _ e) (aR hi');rcases List.mem_cons.1 a with rfl | a
  ·omega
  ·have:=ih y a;omega
theorem aO.ok{P:List Nat}{b hb:Nat}{lo hi:OB}(p:aO f t H P b hb lo hi)(g:Ok f.n H (aB f t) none none):Ok f.n hb b lo hi/\(P≠[]->2<=sz f.n b):=by
 induction p using aO.ind with
 | here d=>exact⟨g,fun q=>absurd rfl q⟩
 | @down P b h lo hi es i p e hi' d ih=>
  obtain⟨es',a,_,_,_,c⟩:=ih.1;rw[e]at a;cases a;exact⟨(c i hi').2,fun _=>(c i hi').1⟩
theorem aO.live(h:IC f)(ht:t<f.r.length){P:List Nat}{b hb:Nat}{lo hi:OB}(p:aO f t H P b hb lo hi):∀y∈b :: P,∃d,f.n y=some d:=fun y a=>
 h.live (by rw[(p.named h ht y a).1];omega)
theorem eA{es:List E3}{i j:Nat}(h1:(kids (2,es)).count (kd es i)=1)(a:i<es.length)(b:j<es.length)(e:kd es j=kd es i):j=i:=by
 rw[gN]at h1;have d:(es.map ch).getD i 0=kd es i:=gL _ _ a;have c:(es.map ch).getD j 0=kd es i:=(gL _ _ b).trans e;generalize kd es i=x at *;have a:i <(es.map ch).length:=by simpa using a
 have b:j <(es.map ch).length:=by simpa using b
 generalize es.map ch=l at *;by_cases f:j=i
 ·exact f
 ·exfalso
  have:=fV l i x a
  rw[d,bV,h1]at this;have g:(delE l i).count x=0:=by omega
  refine List.count_eq_zero.1 g ?_;rw[gD,gE b]at c;simp only[Option.getD_some]at c;rw[<-c];unfold delE;by_cases h:j<i
  ·exact List.mem_append_left _ (List.mem_take_iff_getElem.2 ⟨j,by omega,rfl⟩)
  ·refine List.mem_append_right _ (List.mem_drop_iff_getElem.2 ⟨j -(i+1),by omega,?_⟩)
   congr 1;omega
theorem aO.upd(h:IC f)(ht:t<f.r.length){P:List Nat}{b hb:Nat}{lo hi:OB}(p:aO f t H P b hb lo hi)(ho:Ok f.n H (aB f t) none none){es:List E3}{k:Int}(A:f.n b=some (k,es))
  {nodes':Nat->Option Nd} (C:Nat->Prop) (n:∀x,C x->cu f x=1/\x∈kids (k,es)) (L:∀x d,f.n x=some d->x≠b->¬C x->nodes' x=some d)
  (Y:Ok nodes' hb b lo hi) (aw:P≠[]->2<=sz nodes' b):
  Ok nodes' H (aB f t) none none/\(∀u,u<f.r.length->u≠t->nodes' (aB f u)=f.n (aB f u)/\∀hu,Ok f.n hu (aB f u) none none->Ok nodes' hu (aB f u) none none):=by
 obtain⟨xd,w⟩:=h.ht;have G:=p.named h ht;have F:=p.high w;let U:Nat->Prop:=fun x=>(∃d,f.n x=some d)/\x∉b :: P/\¬C x;have mn:∀x d,U x->f.n x=some d->∀c∈kids d,U c:=fun x d ⟨_,E,Q⟩ g c l=>by
  refine⟨h.af g l,fun y=>?_,fun s=>?_⟩
  ·exact E (List.mem_cons_of_mem _ ((G c y).2.1 x d g l))
  ·have:=(h.only (n c s).1 A (n c s).2).2.2 x d g l
   exact E (this▸List.mem_cons_self)
 have K:∀x,U x->nodes' x=f.n x:=fun x ⟨⟨d,m⟩,E,Q⟩=>by
  rw[m];exact L x d m (fun e=>E (e▸List.mem_cons_self)) Q
 have X:=Ok.frame mn K;have N:∀x∈P,nodes' x=f.n x:=fun x g=>by
  obtain⟨d,m⟩:=p.live h ht x (List.mem_cons_of_mem _ g);rw[m];refine L x d m (fun e=>by have:=F x g;rw[e]at this;omega) fun l=>?_;have B:=eR (ht:=xd) (v:=xd b) (es:=es) (c:=x) (by
   have:=(cU (n x l).2).1;subst this;exact w b _ A) (by
   have:=(cU (n x l).2).1;subst this;exact(n x l).2)
  have:=F x g;omega
 have S:∀x∈P,∀d,f.n x=some d->∀c∈kids d,U c\/c∈b :: P:=fun x g d m c l=>by
  by_cases y:c∈b :: P
  ·exact .inr y
  ·refine .inl ⟨h.af m l,y,fun s=>?_⟩
   have:=(h.only (n c s).1 A (n c s).2).2.2 x d m l
   have a:=F x g;rw[this]at a;omega
 refine⟨?_,fun u hu AF=>?_⟩
 ·clear G A n L
  clear_value U
  induction p using aO.ind with
  | here B=>exact Y
  | @down P b MI lo hi es i p z hi' B ih=>
   have T:=p.ok ho;obtain⟨es',V,e2,e3,e4,W⟩:=T.1;rw[z]at V;cases V;have M:nodes' b=some (2,es):=by rw[N b List.mem_cons_self,z]
   have R:=h.only B z (aR hi');have Z:∀j,j<es.length->j≠i->U (kd es j):=fun j o eX=>by
    rcases S b List.mem_cons_self _ z _ (aR o)with q | q
    ·exact q
    ·exfalso
     rcases List.mem_cons.1 q with q | q
     ·exact eX (eA R.2.1 hi' o q)
     ·have I:=eR (w b _ z) (aR o)
      rcases List.mem_cons.1 q with q | q
      ·rw[q]at I;omega
      ·have:=p.high w _ q;omega
   refine ih ?_ ?_ ?_ ?_ ?_
   ·refine⟨es,M,e2,e3,e4,fun j o=>?_⟩
    by_cases e:j=i
    ·subst e;exact⟨aw (by simp),Y⟩
    ·refine⟨?_,X _ _ _ _ (Z j o e) (W j o).2⟩
     unfold sz;rw[K _ (Z j o e)];exact(W j o).1
   ·intro hP
    have:=T.2 hP
    unfold sz at this |-;rw[z]at this;rw[M];exact this
   ·exact p.high w
   ·intro x g;exact N x (List.mem_cons_of_mem _ g)
   ·intro x g d m c l
    rcases S x (List.mem_cons_of_mem _ g) d m c l with q | q
    ·exact .inl q
    ·rcases List.mem_cons.1 q with q | q
     ·exfalso
      have:=R.2.2 x d m (q▸l)
      have a:=p.high w x g;rw[this]at a;omega
     ·exact .inr q
 ·have O:U (aB f u):=?_
  ·exact⟨K _ O,fun k' sk=>X k' _ _ _ O sk⟩
  refine⟨h.ao (aQ hu),fun y=>?_,fun s=>?_⟩
  ·obtain⟨I,a2,D⟩:=G _ y
   have GH:0<rc f.r (aB f u):=List.count_pos_iff.2 (List.mem_map_of_mem (aQ hu));rcases D with D | D
   ·have B:=(h.aD (aQ hu) I).1
    have F0:=fV (f.r.map fun r=>r.2.toNat) u (aB f u) (by simpa using hu);have g1:(f.r.map fun r=>r.2.toNat).getD u 0=aB f u:=by simp[aB,gD,hu]
    have J:(f.r.map fun r=>r.2.toNat).getD t 0=aB f u:=by rw[D];simp[aB,gD,ht]
    rw[g1,bV]at F0;have My:(f.r.map fun r=>r.2.toNat).count (aB f u)=1:=B;have h0:(delE (f.r.map fun r=>r.2.toNat) u).count (aB f u)=0:=by omega
    refine List.count_eq_zero.1 h0 ?_;have fu:t <(f.r.map fun r=>r.2.toNat).length:=by simpa using ht
    rw[gD,gE fu]at J;simp only[Option.getD_some]at J;rw[<-J];unfold delE;by_cases ai:t<u
    ·exact List.mem_append_left _ (List.mem_take_iff_getElem.2 ⟨t,by omega,rfl⟩)
    ·refine List.mem_append_right _ (List.mem_drop_iff_getElem.2 ⟨t -(u+1),by omega,?_⟩)
     congr 1;omega
   ·omega
  ·have a:=(h.only (n _ s).1 A (n _ s).2).1
   have GH:0<rc f.r (aB f u):=List.count_pos_iff.2 (List.mem_map_of_mem (aQ hu));omega
end
end Go.Proofs.YtmpagpeenjddgaaGreat.Fo
namespace Go.Proofs.YtmpagpeenjddgaaGreat.Fo
theorem sC{α:Type}(l:List α)(z:α)(p:α->Bool)(g:∀i j,i<j->j<l.length->p (l.getD j z)=true->p (l.getD i z)=true):∀j,j<l.length->(p (l.getD j z)=true↔j <(l.filter p).length):=by
 induction l with
 | nil=>intro j b;simp at b
 | cons a l ih=>
  have d:=ih fun i j n b h=>by
   have:=g (i+1) (j+1) (by omega) (by simp;omega) (by simpa using h)
   simpa using this
  intro j b;cases c:p a with
  | true=>
   rw[List.filter_cons_of_pos c,List.length_cons];cases j with
   | zero=>simp[c]
   | succ j=>
    have:=d j (by simpa using b)
    simp only[List.getD_cons_succ];rw[this];omega
  | false=>
   have f:∀j,j<l.length->p (l.getD j z)=false:=fun j b=>by
    cases e:p (l.getD j z)with
    | false=>rfl
    | true=>
     have:=g 0 (j+1) (by omega) (by simp;omega) (by simpa using e)
     simp[c]at this
   have k:l.filter p=[]:=List.filter_eq_nil_iff.2 fun x m=>by
    obtain⟨j,b,rfl⟩:=List.mem_iff_getElem.1 m;have:=f j b;rw[gD,gE b]at this;simpa using this
   rw[List.filter_cons_of_neg (by simp[c]),k];cases j with
   | zero=>simp[c]
   | succ j=>simp only[List.getD_cons_succ];rw[f j (by simpa using b)];simp
def cLe(es:List E3)(key:ByteArray):Nat:=(es.filter fun e=>!kl key e.1).length
def cLt(es:List E3)(key:ByteArray):Nat:=(es.filter fun e=>kl e.1 key).length
def bL(es:List E3)(key:ByteArray):Nat:=cLe es key-1
theorem wK(es:List E3)(key:ByteArray):cLe es key<=es.length:=List.length_filter_le ..
theorem kT(es:List E3)(key:ByteArray):cLt es key<=es.length:=List.length_filter_le ..
theorem gC{es:List E3}(c:Srt es)(key:ByteArray){j:Nat}(b:j<es.length):kl key (ky es j)=false↔j<cLe es key:=by
 have:=sC es e0 (fun e=>!kl key e.1) (fun i j d b h=>by
  have a:=c i j d b;simp only[Bool.not_eq_true']at h |-;exact gO (fN a) h) j b
 simp only[Bool.not_eq_true']at this;exact this
theorem gZ{es:List E3}(b:Srt es)(key:ByteArray){j:Nat}(a:j<es.length):kl (ky es j) key=true↔j<cLt es key:=
 sC es e0 (fun e=>kl e.1 key) (fun i j c a h=>kM (b i j c a) h) j a
theorem eJ{es:List E3}(key:ByteArray)(h:es≠[]):bL es key<es.length:=by
 have:=wK es key
 have:0<es.length:=List.length_pos_iff.2 h
 unfold bL;omega
theorem aLX{es:List E3}(b:Srt es)(key:ByteArray){j:Nat}(a:j<es.length)(h:bL es key<j):kl key (ky es j)=true:=by
 cases e:kl key (ky es j)with
 | true=>rfl
 | false=>have:=(gC b key a).1 e;unfold bL at h;omega
theorem aLY{es:List E3}(a:Srt es)(key:ByteArray)(b:kl key (ky es 0)=false)(hn:es≠[]):kl key (ky es (bL es key))=false:=by
 have c:0<es.length:=List.length_pos_iff.2 hn;have d:=(gC a key c).1 b;exact(gC a key (eJ key hn)).2 (by unfold bL;omega)
theorem aDP{es:List E3}(c:Srt es)(key:ByteArray){j:Nat}(e:j<es.length)(h1:kl key (ky es j)=false)(h2:j+1<es.length->kl key (ky es (j+1))=true):bL es key=j:=by
 have a:=(gC c key e).1 h1;have b:cLe es key<=j+1:=by
  refine Nat.le_of_not_lt fun d=>?_;have f:=wK es key;have:=(gC c key (j:=j+1) (by omega)).2 d;rw[h2 (by omega)]at this;cases this
 unfold bL;omega
theorem jN{α:Type}(l:List α)(i:Nat)(e z:α)(d:i<=l.length)(j:Nat):(insE l i e).getD j z=if j<i then l.getD j z else if j=i then e else l.getD (j-1) z:=by
 unfold insE;have b:(l.take i).length=i:=by rw[List.length_take];omega
 simp only[gD];by_cases a:j<i
 ·rw[if_pos a,List.getElem?_append_left (by rw[b];exact a),List.getElem?_take,if_pos a]
 ·rw[if_neg a,List.getElem?_append_right (by rw[b];omega),b]
  by_cases c:j=i
  ·subst c;simp
  ·rw[if_neg c]
   obtain⟨m,rfl⟩:∃m,j=i+(m+1):=⟨j-i-1,by omega⟩;rw[show i+(m+1)-i=m+1 from by omega,List.getElem?_cons_succ,List.getElem?_drop];congr 2
theorem iT{α:Type}(l:List α)(i:Nat)(e:α):(insE l i e).length=l.length+1:=by
 unfold insE;simp only[lP,List.length_cons,List.length_take,List.length_drop];omega
theorem iJ{α:Type}(l:List α)(i:Nat)(z:α)(c:i<=l.length)(j:Nat):(delE l i).getD j z=if j<i then l.getD j z else l.getD (j+1) z:=by
 unfold delE;have b:(l.take i).length=i:=by rw[List.length_take];omega
 simp only[gD];by_cases a:j<i
 ·rw[if_pos a,List.getElem?_append_left (by rw[b];exact a),List.getElem?_take,if_pos a]
 ·rw[if_neg a,List.getElem?_append_right (by rw[b];omega),b,List.getElem?_drop]
  congr 2;omega
theorem bU{α:Type}(l:List α)(i:Nat)(h:i<l.length):(delE l i).length=l.length-1:=by
 unfold delE;simp only[lP,List.length_take,List.length_drop];omega
theorem fX{α:Type}(l:List α)(m:Nat)(z:α){j:Nat}(h:j<m):(l.take m).getD j z=l.getD j z:=by
 simp only[gD,List.getElem?_take,if_pos h]
theorem fF{α:Type}(l:List α)(m:Nat)(z:α)(j:Nat):(l.drop m).getD j z=l.getD (m+j) z:=by
 simp only[gD,List.getElem?_drop]
theorem bF{α:Type}(l:List α)(i j:Nat)(v z:α)(a:i<l.length):(l.set i v).getD j z=if j=i then v else l.getD j z:=by
 simp only[gD,List.getElem?_set];by_cases h:i=j
 ·subst h;simp[a]
 ·rw[if_neg h,if_neg (Ne.symm h)]
theorem dC{α:Type}(l m:List α)(j:Nat)(z:α):(l++m).getD j z=if j<l.length then l.getD j z else m.getD (j-l.length) z:=by
 simp only[gD];by_cases h:j<l.length
 ·rw[if_pos h,List.getElem?_append_left h]
 ·rw[if_neg h,List.getElem?_append_right (by omega)]
section
variable {f : fZ} {t H : Nat}
theorem aO.ax(h:IC f){P:List Nat}{b hb:Nat}{lo hi:OB}(p:aO f t H P b hb lo hi){d:Nd}(hd:f.n b=some d){c:Nat}(hc:c∈kids d):c∉b :: P:=by
 obtain⟨j,e⟩:=h.ht;obtain⟨k,es⟩:=d;have g:=(cU hc).1;subst g;have a:=eR (e b _ hd) hc;intro i;rcases List.mem_cons.1 i with q | q
 ·rw[q]at a;omega
 ·have:=p.high e c q;omega
theorem aO.az(h:IC f){P:List Nat}{b hb:Nat}{lo hi:OB}(p:aO f t H P b hb lo hi){d:Nd}(hd:f.n b=some d){c:Nat}(hc:c∈kids d){d':Nd}(l:f.n c=some d'){c':Nat}(i:c'∈kids d'):c'∉b :: P/\c'∉kids d:=by
 obtain⟨r,e⟩:=h.ht;obtain⟨k,es⟩:=d;obtain⟨o,es'⟩:=d';have m:=(cU hc).1;subst m;have n:=(cU i).1;subst n;have a:=eR (e b _ hd) hc;have j:=eR (e c _ l) i;refine⟨fun g=>?_,fun g=>?_⟩
 ·rcases List.mem_cons.1 g with q | q
  ·rw[q]at j;omega
  ·have:=p.high e c' q;omega
 ·have:=eR (e b _ hd) g;omega
theorem aO.fr(h:IC f)(ht:t<f.r.length){P:List Nat}{b hb:Nat}{lo hi:OB}(p:aO f t H P b hb lo hi){es:List E3}{k:Int}(q:f.n b=some (k,es))
  {nodes':Nat->Option Nd} (C:Nat->Prop) (j:∀x,C x->cu f x=1/\x∈kids (k,es)) (r:∀x d,f.n x=some d->x≠b->¬C x->nodes' x=some d)
  {x:Nat} {d:Nd} (hx:f.n x=some d) (m:x∉b :: P) (hc:¬C x) {br:Nat} {lx ux:OB} (s:Ok f.n br x lx ux):Ok nodes' br x lx ux/\sz nodes' x=sz f.n x:=by
 have o:=p.named h ht;let U:Nat->Prop:=fun x=>(∃d,f.n x=some d)/\x∉b :: P/\¬C x;have v:∀x d,U x->f.n x=some d->∀c∈kids d,U c:=fun x d ⟨_,a,g⟩ hx c hc=>by
  refine⟨h.af hx hc,fun u=>?_,fun n=>?_⟩
  ·exact a (List.mem_cons_of_mem _ ((o c u).2.1 x d hx hc))
  ·have:=(h.only (j c n).1 q (j c n).2).2.2 x d hx hc
   exact a (this▸List.mem_cons_self)
 have i:∀x,U x->nodes' x=f.n x:=fun x ⟨⟨d,l⟩,a,g⟩=>by
  rw[l];exact r x d l (fun e=>a (e▸List.mem_cons_self)) g
 refine⟨Ok.frame v i _ _ _ _ ⟨⟨d,hx⟩,m,hc⟩ s,?_⟩;unfold sz;rw[i x ⟨⟨d,hx⟩,m,hc⟩]
theorem aO.mono{f':fZ}{P:List Nat}{b hb:Nat}{lo hi:OB}(p:aO f t H P b hb lo hi)(hr:aB f' t=aB f t)(hc:∀y∈b :: P,cu f' y=cu f y)(hn:∀y∈P,f'.n y=f.n y):aO f' t H P b hb lo hi:=by
 induction p using aO.ind with
 | here a=>
  rw[<-hr];exact aO.here (by rw[hr,hc _ List.mem_cons_self];exact a)
 | @down P b e lo hi es i p d hi' a ih=>
  refine aO.down (ih (fun y c=>hc y (List.mem_cons_of_mem _ c)) fun y c=>hn y (List.mem_cons_of_mem _ c)) ?_ hi' ?_
  ·rw[hn b List.mem_cons_self];exact d
  ·rw[hc _ List.mem_cons_self];exact a
end
structure Wk(f:fZ)(t H:Nat):Prop where
 ic:IC f
 tl:t<f.r.length
 ok:Ok f.n H (aB f t) none none
 ee:∀u,u<f.r.length->u≠t->∃h,Ok f.n h (aB f u) none none/\(h=0\/2<=sz f.n (aB f u))
theorem Wk.step{f f':fZ}{t H:Nat}(w:Wk f t H){P:List Nat}{b hb:Nat}{lo hi:OB}(p:aO f t H P b hb lo hi)(hi':IC f')(hr:f'.r=f.r){es:List E3}{k:Int}(i:f.n b=some (k,es))(C:Nat->Prop)
  (r:∀x,C x->cu f x=1/\x∈kids (k,es)) (s:∀x d,f.n x=some d->x≠b->¬C x->f'.n x=some d) (v:Ok f'.n hb b lo hi) (j:P≠[]->2<=sz f'.n b):Wk f' t H:=by
 obtain⟨l,m⟩:=p.upd w.ic w.tl w.ok i C r s v j;have e:∀u,aB f' u=aB f u:=fun u=>by unfold aB;rw[hr]
 refine⟨hi',by rw[hr];exact w.tl,by rw[e];exact l,fun u c g=>?_⟩;rw[hr]at c;obtain⟨h,q,a⟩:=w.ee u c g;obtain⟨n,o⟩:=m u c g;refine⟨h,by rw[e];exact o h q,?_⟩;rcases a with a | a
 ·exact .inl a
 ·refine .inr ?_
  unfold sz at a |-;rw[e,n];exact a
theorem aO.top{f:fZ}{t H:Nat}{P:List Nat}{b hb:Nat}{lo hi:OB}(p:aO f t H P b hb lo hi):(P=[]/\b=aB f t/\hb=H)\/(aB f t∈P/\0<H):=by
 induction p using aO.ind with
 | here c=>exact .inl ⟨rfl,rfl,rfl⟩
 | @down P b d lo hi es i p e hi' c ih=>
  rcases ih with⟨_,q,a⟩ | ⟨q,a⟩
  ·exact .inr ⟨by rw[q];exact List.mem_cons_self,by omega⟩
  ·exact .inr ⟨List.mem_cons_of_mem _ q,a⟩
def cJ(f:fZ)(t H:Nat):Prop:=H=0\/2<=sz f.n (aB f t)
theorem aO.rt{f f':fZ}{t H:Nat}{P:List Nat}{b hb:Nat}{lo hi:OB}(p:aO f t H P b hb lo hi)(hr:aB f' t=aB f t)(hn:∀y∈P,f'.n y=f.n y)(c:0<H->P=[]->2<=sz f'.n b)(h:cJ f t H):cJ f' t H:=by
 rcases h with h | h
 ·exact .inl h
 ·by_cases a:H=0
  ·exact .inl a
  ·refine .inr ?_
   rw[hr];rcases p.top with⟨d,e,_⟩ | ⟨q,_⟩
   ·rw[<-e];exact c (by omega) d
   ·unfold sz at h |-;rw[hn _ q];exact h
def lowK(es:List E3)(key:ByteArray):List E3:=if kl key (ky es 0)=true then es.set 0 (key,(es.getD 0 e0).2)else es
theorem cM(es:List E3)(key:ByteArray):(lowK es key).length=es.length:=by unfold lowK;split<;>simp
theorem zW(es:List E3)(key:ByteArray)(j:Nat)(hn:es≠[]):((lowK es key).getD j e0).2=(es.getD j e0).2/\(0<j->ky (lowK es key) j=ky es j):=by
 have a:0<es.length:=List.length_pos_iff.2 hn;unfold lowK;split
 ·simp only[ky,bF _ _ _ _ _ a]
  by_cases e:j=0
  ·subst e;simp
  ·simp[e]
 ·exact⟨rfl,fun _=>rfl⟩
theorem vS(es:List E3)(key:ByteArray)(hn:es≠[]):kl key (ky (lowK es key) 0)=false/\(ky (lowK es key) 0=ky es 0\/(ky (lowK es key) 0=key/\kl key (ky es 0)=true)):=by
 have a:0<es.length:=List.length_pos_iff.2 hn;unfold lowK;split
 ·rename_i h
  have:ky (es.set 0 (key,(es.getD 0 e0).2)) 0=key:=by simp only[ky,bF _ _ _ _ _ a,if_true]
  rw[this];exact⟨eI _,.inr ⟨rfl,h⟩⟩
 ·rename_i h;exact⟨by simpa using h,.inl rfl⟩
theorem aGA(es:List E3)(key:ByteArray)(hn:es≠[]):kids (2,lowK es key)=kids (2,es):=by
 have a:0<es.length:=List.length_pos_iff.2 hn;rw[gN,gN];unfold lowK;split
 ·rw[List.map_set]
  have:ch (key,(es.getD 0 e0).2)=(es.map ch).getD 0 0:=(gL _ _ a).symm
  rw[this];refine List.ext_getElem? fun j=>?_;rw[List.getElem?_set];split
  ·rename_i h;subst h;simp[gD,a]
  ·rfl
 ·rfl
theorem nX{l:List E3}{j:Nat}(h:j<l.length):l.getD j e0∈l:=by
 rw[gD,gE h];exact List.getElem_mem h
theorem cH{l:List E3}{e:E3}(h:e∈l):∃j,j<l.length/\l.getD j e0=e:=by
 obtain⟨j,a,rfl⟩:=List.mem_iff_getElem.1 h;exact⟨j,a,by rw[gD,gE a];rfl⟩
theorem IC.ar{f:fZ}(h:IC f){b:Nat}{es:List E3}(hd:f.n b=some (2,es)){j:Nat}(a:j<es.length):0<=(es.getD j e0).2.2:=by
 rcases h.kb b _ hd with q | ⟨_,_,q⟩
 ·simp at q
 ·exact(q _ (nX a)).1
theorem Wk.bw{f:fZ}{t H:Nat}(w:Wk f t H){P:List Nat}{b h:Nat}{lo hi:OB}(p:aO f t H P b (h+1) lo hi){es:List E3}(g:f.n b=some (2,es))(key:ByteArray)(C:loR lo key):
  Wk (setN f b (2,lowK es key)) t H/\aO (setN f b (2,lowK es key)) t H P b (h+1) lo hi/\(cJ f t H->cJ (setN f b (2,lowK es key)) t H):=by
 obtain⟨es',F,n,s,K,G⟩:=(p.ok w.ok).1;rw[g]at F;cases F;have l:=fun j=>zW es key j s;have T:∀j,kd (lowK es key) j=kd es j:=fun j=>by unfold kd ch;rw[(l j).1]
 obtain⟨X,J⟩:=vS es key s;have N:IC (setN f b (2,lowK es key)):=w.ic.keys g (aGA es key s) fun _ e Q=>by
  obtain⟨j,c,rfl⟩:=cH Q;rw[cM]at c;rw[(l j).1];exact w.ic.ar g c
 have z:(setN f b (2,lowK es key)).n b=some (2,lowK es key):=aE _ _ _;have v:∀x,x≠b->(setN f b (2,lowK es key)).n x=f.n x:=fun x o=>aC _ _ o;have E:∀y∈P,y≠b:=fun y r e=>by
  obtain⟨W,R⟩:=w.ic.ht;have:=p.high R y r;rw[e]at this;omega
 have A:∀j,j<es.length->kl (ky es j) (ky (lowK es key) j)=false:=fun j c=>by
  cases j with
  | zero=>
   rcases J with q | ⟨q,I⟩
   ·rw[q];exact eI _
   ·rw[q];exact fN I
  | succ j=>rw[(l (j+1)).2 (by omega)];exact eI _
 have U:∀j,nxt (lowK es key) j hi=nxt es j hi:=fun j=>by
  unfold nxt;rw[cM,(l (j+1)).2 (by omega)]
 refine⟨w.step p N rfl g (fun _=>False) (fun _ q=>q.elim) (fun x d o D _=>by rw[v x D];exact o) ?_ ?_,p.mono rfl (fun _ _=>rfl) (fun y r=>v y (E y r)),fun m=>p.rt rfl (fun y r=>v y (E y r)) (fun V B=>?_) m⟩
 ·refine⟨lowK es key,z,⟨?_,?_,?_,by rw[cM];exact n.bz⟩,?_,?_,?_⟩
  ·intro i j S c
   rw[cM]at c;rw[(l j).2 (by omega)];exact lD (A i (by omega)) (n.a6 i j S c)
  ·intro j c
   rw[cM]at c;cases j with
   | zero=>
    rcases J with q | ⟨q,I⟩
    ·rw[q];exact n.lo 0 c
    ·rw[q];exact C
   | succ j=>rw[(l (j+1)).2 (by omega)];exact n.lo _ c
  ·intro j c
   rw[cM]at c;have a:=n.hi j c;cases hi with
   | none=>trivial
   | some u=>exact lD (A j c) a
  ·intro q;exact s (List.length_eq_zero_iff.1 (by rw[<-cM es key,q];rfl))
  ·intro j c;rw[cM]at c;rw[(l j).1];exact K j c
  ·intro j c
   rw[cM]at c;rw[T,U];obtain⟨d,O⟩:=w.ic.af g (aR c);obtain⟨L,M⟩:=p.fr w.ic w.tl g (nodes':=(setN f b (2,lowK es key)).n) (fun _=>False) (fun _ q=>q.elim) (fun x d o D _=>by rw[v x D];exact o) O (p.ax w.ic g (aR c)) id (G j c).2;refine⟨by rw[M];exact(G j c).1,L.wide (fun k C=>?_) fun _ q=>q⟩;exact gO (A j c) C
 ·intro B
  have:=(p.ok w.ok).2 B
  unfold sz at this |-;rw[z];rw[g]at this;simp only[cM]at *;exact this
 ·rcases m with m | m
  ·omega
  ·rcases p.top with⟨_,q,_⟩ | ⟨q,_⟩
   ·unfold sz at m |-;rw[z];rw[<-q,g]at m;simp only[cM]at *;exact m
   ·rw[B]at q;cases q
end Go.Proofs.YtmpagpeenjddgaaGreat.Fo
namespace Go.Proofs.YtmpagpeenjddgaaGreat.Fo
variable{a:ByteArray}{k:Int}{es:List E3}{P:List Nat}{H b h i j m q t x:Nat}{nodes nodes':Nat->Option Nd}{d:Nd}{hi lo:OB}{f:fZ}
theorem nC(h:IC f){u:Nat}(ht:t<f.r.length)(c:u<f.r.length)(k:u≠t)(h1:cu f (aB f t)=1):aB f u≠aB f t:=fun e=>by
 have a:=(h.aD (aQ ht) h1).1;have d:=fV (f.r.map fun r=>r.2.toNat) t (aB f t) (by simpa using ht);have i:(f.r.map fun r=>r.2.toNat).getD t 0=aB f t:=by simp[aB,gD,ht]
 have b:(f.r.map fun r=>r.2.toNat).getD u 0=aB f t:=by rw[<-e];simp[aB,gD,c]
 rw[i,bV]at d;have l:(f.r.map fun r=>r.2.toNat).count (aB f t)=1:=a;have j:(delE (f.r.map fun r=>r.2.toNat) t).count (aB f t)=0:=by omega
 refine List.count_eq_zero.1 j ?_;have g:u <(f.r.map fun r=>r.2.toNat).length:=by simpa using c
 rw[gD,gE g]at b;simp only[Option.getD_some]at b;rw[<-b];unfold delE;by_cases m:u<t
 ·exact List.mem_append_left _ (List.mem_take_iff_getElem.2 ⟨u,by omega,rfl⟩)
 ·refine List.mem_append_right _ (List.mem_drop_iff_getElem.2 ⟨u -(t+1),by omega,?_⟩)
  congr 1;omega
theorem nQ(a:b<f.c.length)(hd:f.n b=some d)(g:∀c∈kids d,c<f.c.length)(h1:x≠b)(h2:x∉kids d):cu (letGo f b) x=cu f x:=by
 by_cases e:cu f b=1
 ·unfold letGo;rw[if_pos e]
  show(List.set _ b 0).getD x 0=_
  rw[fL _ _ _ _ a,if_neg (Ne.symm h1)]
 ·rw[rR a hd g e,if_neg (Ne.symm h1),List.count_eq_zero.2 h2];simp
theorem vE(h:IC f){L:Loc}(o:dU f L)(j:bN f L=b)(hd:f.n b=some d)(v:q<f.c.length)(hc:cu f q=0)(h1:x≠b)(h2:x∉kids d)(h3:x≠q):
  cu (shadowAt f L q) x=cu f x:=by
 have g:f.n q=none:=(h.bb.dead q).2 hc;have l:b≠q:=fun e=>by rw[e,g]at hd;cases hd
 have s:shadowAt f L q=letGo (setL (takeAt f q d) L q) b:=by unfold shadowAt;rw[j,aF hd]
 have k:(setL (takeAt f q d) L q).c.length=f.c.length:=by rw[bI];simp[takeAt]
 have u:(setL (takeAt f q d) L q).n b=some d:=by
  cases L with
  | inl t=>show upd f.n q (some d) b=_;rw[aC _ _ l];exact hd
  | inr n=>
   obtain⟨p,i⟩:=n;obtain⟨A,es,a,r⟩:=o;have z:p≠q:=fun e=>by rw[e,g]at a;cases a
   have m:look f p=(2,es):=aF a;have w:b∈kids (2,es):=by rw[<-j];simp only[bN,m];exact gP r
   have y:p≠b:=fun e=>h.ag a (e▸w);simp only[setL,setN];rw[aC _ _ (Ne.symm y)];show upd f.n q (some d) b=_;rw[aC _ _ l];exact hd
 rw[s,nQ (by rw[k];exact h.lt hd) u (fun c hc=>by rw[k];exact h.bg hd hc) h1 h2];unfold cu;rw[bI];have:=dW d v x;unfold cu at this;rw[this,if_neg (Ne.symm h3)]
theorem eP(f:fZ)(b i q:Nat):(shadowAt f (.ai b i) q).r=f.r:=by
 unfold shadowAt;rw[dY];rfl
theorem dL(f:fZ)(t q:Nat):(shadowAt f (.root t) q).r=f.r.set t ((f.r.getD t (0,0)).1,(q:Int)):=by
 unfold shadowAt;rw[dY];rfl
theorem Ok.copy(hd:nodes b=some d)(k:nodes' q=some d)(i:Ok nodes h b lo hi)
  (p:∀c∈kids d,∀h' lo' hi',Ok nodes h' c lo' hi'->Ok nodes' h' c lo' hi'/\sz nodes' c=sz nodes c):Ok nodes' h q lo hi:=by
 cases h with
 | zero=>obtain⟨es,a,e⟩:=i;rw[hd]at a;cases a;exact⟨es,k,e⟩
 | succ h=>
  obtain⟨es,a,e,l,m,g⟩:=i;rw[hd]at a;cases a;refine⟨es,k,e,l,m,fun j f=>?_⟩;obtain⟨n,o⟩:=p _ (aR f) _ _ _ (g j f).2;exact⟨by rw[o];exact(g j f).1,n⟩
theorem Wk.cq(w:Wk f t H)(p:aO f t H P b (h+1) lo hi)(g:f.n b=some (2,es))(hi':i<es.length)(hd:f.n (kd es i)=some d)(i9:2<=q)(nu:q<f.c.length)(hc:cu f q=0):
  Wk (shadowAt f (.ai b i) q) t H/\aO (shadowAt f (.ai b i) q) t H P b (h+1) lo hi/\aO (shadowAt f (.ai b i) q) t H (b :: P) q h (some (ky es i)) (nxt es i hi)/\
   (shadowAt f (.ai b i) q).n b=some (setE (2,es) i q)/\(shadowAt f (.ai b i) q).n q=some d/\cu (shadowAt f (.ai b i) q) q=1/\(shadowAt f (.ai b i) q).m=f.m/\(shadowAt f (.ai b i) q).c.length=f.c.length/\(cJ f t H->cJ (shadowAt f (.ai b i) q) t H):=by
 have Z:look f b=(2,es):=aF g;have X:dU f (.ai b i):=⟨w.ic.lt g,es,g,hi'⟩;have Y:bN f (.ai b i)=kd es i:=by simp only[bN,Z];rfl
 obtain⟨I1,E,I3,I4,Q⟩:=w.ic.shadow X Y hd i9 nu hc;have G:f.n q=none:=(w.ic.bb.dead q).2 hc;have eS:=aR hi';have nn:kd es i≠b:=fun e=>w.ic.ag g (by rw[<-e];exact eS);have BC:kd es i≠q:=fun e=>by rw[e,G]at hd;cases hd
 have qx:b≠q:=fun e=>by rw[e,G]at g;cases g
 have BQ:=w.ic.ag hd;obtain⟨es',T,z,e3,e4,A⟩:=(p.ok w.ok).1;rw[g]at T;cases T;have nb:(shadowAt f (.ai b i) q).n b=some (setE (2,es) i q):=by
  rw[E];unfold shN cpN;simp only[Z];split
  ·rw[aC _ _ (Ne.symm nn),aE]
  ·rw[aE]
 have nq:(shadowAt f (.ai b i) q).n q=some d:=by
  rw[E];unfold shN cpN;simp only;split
  ·rw[aC _ _ (Ne.symm BC),aC _ _ (Ne.symm qx),aE]
  ·rw[aC _ _ (Ne.symm qx),aE]
 have L:∀x,x≠b->x≠q->¬(x=kd es i/\cu f (kd es i)=1)->(shadowAt f (.ai b i) q).n x=f.n x:=fun x V W h3=>by
  rw[E];unfold shN cpN;simp only;split
  ·rename_i qa
   rw[aC _ _ (fun e=>h3 ⟨e,qa⟩),aC _ _ V,aC _ _ W]
  ·rw[aC _ _ V,aC _ _ W]
 have B:∀{x:Nat} {d':Nd},f.n x=some d'->x≠q:=fun o e=>by rw[e,G]at o;cases o
 have U:=fun {x:Nat} {d':Nd} (o:f.n x=some d')=>p.fr w.ic w.tl g (nodes':=(shadowAt f (.ai b i) q).n) (fun x=>x=kd es i/\cu f (kd es i)=1) (fun x ⟨v,M⟩=>⟨by rw[v];exact M,by rw[v];exact eS⟩) (fun x d o N D=>by rw[L x N (B o) D];exact o) o;have n:∀j,((es.set i ((es.getD i e0).1,(es.getD i e0).2.1,(q:Int))).getD j e0).1=ky es j/\((es.set i ((es.getD i e0).1,(es.getD i e0).2.1,(q:Int))).getD j e0).2.1=(es.getD j e0).2.1/\kd (es.set i ((es.getD i e0).1,(es.getD i e0).2.1,(q:Int))) j=if j=i then q else kd es j:=fun j=>by
  unfold kd;rw[bF _ _ _ _ _ hi'];by_cases e:j=i
  ·subst e;simp[ky,ch]
  ·simp[e,ky]
 have J:∀y∈b :: P,cu (shadowAt f (.ai b i) q) y=cu f y:=fun y s=>by
  obtain⟨dy,F⟩:=p.live w.ic w.tl y s;refine vE w.ic X Y hd nu hc (fun e=>?_) (fun K=>?_) (B F)
  ·exact p.ax w.ic g eS (e▸s)
  ·exact(p.az w.ic g eS hd K).1 s
 have C:(shadowAt f (.ai b i) q).n b=some (2,es.set i ((es.getD i e0).1,(es.getD i e0).2.1,(q:Int))):=nb;have O:∀y∈P,(shadowAt f (.ai b i) q).n y=f.n y:=fun y s=>by
  obtain⟨dy,F⟩:=p.live w.ic w.tl y (List.mem_cons_of_mem _ s);refine L y (fun e=>?_) (B F) fun m=>?_
  ·obtain⟨xd,hh⟩:=w.ic.ht
   have:=p.high hh y s;rw[e]at this;omega
  ·exact p.ax w.ic g eS (m.1▸List.mem_cons_of_mem _ s)
 have p':aO (shadowAt f (.ai b i) q) t H P b (h+1) lo hi:=p.mono (by unfold aB;rw[eP]) J O;have l:(es.set i ((es.getD i e0).1,(es.getD i e0).2.1,(q:Int))).length=es.length:=by simp
 have S:∀j,nxt (es.set i ((es.getD i e0).1,(es.getD i e0).2.1,(q:Int))) j hi=nxt es j hi:=fun j=>by
  unfold nxt;rw[l];unfold ky;rw[(n (j+1)).1];rfl
 have wl:∀c∈kids d,∀I lo' hi',Ok f.n I c lo' hi'->Ok (shadowAt f (.ai b i) q).n I c lo' hi'/\sz (shadowAt f (.ai b i) q).n c=sz f.n c:=fun c u I lo' hi' K=>by
  obtain⟨dc,j8⟩:=w.ic.af hd u;exact U j8 (p.az w.ic g eS hd u).1 (fun m=>BQ (m.1▸u)) K
 refine⟨w.step p I1 (eP f b i q) g (fun x=>x=kd es i/\cu f (kd es i)=1) (fun x ⟨v,M⟩=>⟨by rw[v];exact M,by rw[v];exact eS⟩) (fun x d o N D=>by rw[L x N (B o) D];exact o) ?_ ?_,p',?_,nb,nq,Q,I4,I3,fun r=>p.rt (by unfold aB;rw[eP]) O (fun h0 J=>?_) r⟩
 ·refine⟨_,C,⟨?_,?_,?_,by rw[l];exact z.bz⟩,?_,?_,?_⟩
  ·intro a c y8 u
   rw[l]at u;unfold ky;rw[(n a).1,(n c).1];exact z.a6 a c y8 u
  ·intro j k;rw[l]at k;unfold ky;rw[(n j).1];exact z.lo j k
  ·intro j k;rw[l]at k;unfold ky;rw[(n j).1];exact z.hi j k
  ·intro e;exact e3 (List.length_eq_zero_iff.1 (by rw[<-l,e];rfl))
  ·intro j k;rw[l]at k;rw[(n j).2.1];exact e4 j k
  ·intro j k
   rw[l]at k;rw[S,(n j).2.2];unfold ky;rw[(n j).1];by_cases e:j=i
   ·subst e
    rw[if_pos rfl];refine⟨?_,Ok.copy hd nq (A j k).2 wl⟩;have:=(A j k).1;unfold sz at this |-;rw[nq];rw[hd]at this;exact this
   ·rw[if_neg e]
    obtain⟨dj,Kq⟩:=w.ic.af g (aR k);obtain⟨g1,g2⟩:=U Kq (p.ax w.ic g (aR k)) (fun m=>e (eA (w.ic.only m.2 g eS).2.1 hi' k m.1)) (A j k).2;exact⟨by rw[g2];exact(A j k).1,g1⟩
 ·intro Rj
  have:=(p.ok w.ok).2 Rj
  unfold sz at this |-;rw[C];rw[g]at this;simp only[l]at *;exact this
 ·have R:kd (es.set i ((es.getD i e0).1,(es.getD i e0).2.1,(q:Int))) i=q:=by rw[(n i).2.2,if_pos rfl]
  have:=aO.down p' C (i:=i) (by rw[l];exact hi') (by rw[R];exact Q)
  rw[R,S]at this;have sk:ky (es.set i ((es.getD i e0).1,(es.getD i e0).2.1,(q:Int))) i=ky es i:=(n i).1;rw[sk]at this;exact this
 ·rcases r with r | r
  ·omega
  ·rcases p.top with⟨_,m,_⟩ | ⟨m,_⟩
   ·unfold sz at r |-;rw[C];rw[<-m,g]at r;simp only[l]at *;exact r
   ·rw[J]at m;cases m
theorem Wk.ca(w:Wk f t H)(hd:f.n (aB f t)=some d)(G:2<=q)(J:q<f.c.length)(hc:cu f q=0):
  Wk (shadowAt f (.root t) q) t H/\aO (shadowAt f (.root t) q) t H [] q H none none/\aB (shadowAt f (.root t) q) t=q/\(shadowAt f (.root t) q).n q=some d/\(shadowAt f (.root t) q).m=f.m/\(shadowAt f (.root t) q).c.length=f.c.length/\(cJ f t H->cJ (shadowAt f (.root t) q) t H):=by
 obtain⟨A,B,C,D,E⟩:=w.ic.shadow (L:=.root t) w.tl rfl hd G J hc;have y:f.n q=none:=(w.ic.bb.dead q).2 hc;have M:aB f t≠q:=fun e=>by rw[e,y]at hd;cases hd
 have j:aB (shadowAt f (.root t) q) t=q:=by
  unfold aB;rw[dL];simp[gD,w.tl]
 have v:∀u,u≠t->aB (shadowAt f (.root t) q) u=aB f u:=fun u a=>by
  unfold aB;rw[dL];simp only[gD,List.getElem?_set,if_neg (Ne.symm a)]
 have s:(shadowAt f (.root t) q).n=if cu f (aB f t)=1 then upd (upd f.n q (some d)) (aB f t) none else upd f.n q (some d):=B;have nq:(shadowAt f (.root t) q).n q=some d:=by
  rw[s];split
  ·rw[aC _ _ (Ne.symm M),aE]
  ·rw[aE]
 let U:Nat->Prop:=fun x=>(∃d,f.n x=some d)/\(cu f (aB f t)=1->x≠aB f t)
 have I:∀x d,U x->f.n x=some d->∀c∈kids d,U c:=fun x d' _ k c i=>
  ⟨w.ic.af k i,fun b e=>(w.ic.aD (aQ w.tl) b).2 x d' k (by have:c=(f.r.getD t (0,0)).2.toNat:=e;rw[<-this];exact i)⟩
 have n:∀x,U x->(shadowAt f (.root t) q).n x=f.n x:=fun x ⟨⟨d',k⟩,b⟩=>by
  have p:x≠q:=fun e=>by rw[e,y]at k;cases k
  rw[s];split
  ·rename_i K;rw[aC _ _ (b K),aC _ _ p]
  ·rw[aC _ _ p]
 have z:=Ok.frame I n;refine⟨⟨A,by rw[dL];simpa using w.tl,?_,fun u a m=>?_⟩,?_,j,nq,D,C,fun l=>l.imp id fun l=>by rw[j];unfold sz at l |-;rw[nq];rw[hd]at l;exact l⟩
 ·rw[j]
  refine Ok.copy hd nq w.ok fun c i N lo' hi' F=>?_;have o:U c:=⟨w.ic.af hd i,fun _ e=>w.ic.ag hd (e▸i)⟩;exact⟨z _ _ _ _ o F,by unfold sz;rw[n c o]⟩
 ·rw[dL]at a
  have a:u<f.r.length:=by simpa using a
  obtain⟨h,b,g⟩:=w.ee u a m;have r:U (aB f u):=⟨w.ic.ao (aQ a),fun b=>nC w.ic w.tl a m b⟩;refine⟨h,by rw[v u m];exact z _ _ _ _ r b,?_⟩;rcases g with g | g
  ·exact .inl g
  ·refine .inr ?_
   unfold sz at g |-;rw[v u m,n _ r];exact g
 ·have:=aO.here (f:=shadowAt f (.root t) q) (t:=t) (H:=H) (by rw[j];exact E)
  rw[j]at this;exact this
theorem aED(a:i<=es.length)(e:E3)(j:Nat):ky (insE es i e) j=if j<i then ky es j else if j=i then e.1 else ky es (j-1):=by
 unfold ky;rw[jN _ _ _ _ a];split
 ·rfl
 ·split<;>rfl
theorem aMF(a:i<=es.length)(e:E3)(j:Nat):kd (insE es i e) j=if j<i then kd es j else if j=i then ch e else kd es (j-1):=by
 unfold kd;rw[jN _ _ _ _ a];split
 ·rfl
 ·split<;>rfl
theorem eN(h:j<m):ky (es.take m) j=ky es j:=by unfold ky;rw[fX _ _ _ h]
theorem aEB(h:j<m):kd (es.take m) j=kd es j:=by unfold kd;rw[fX _ _ _ h]
theorem gH:ky (es.drop m) j=ky es (m+j):=by unfold ky;rw[fF]
theorem aEA:kd (es.drop m) j=kd es (m+j):=by unfold kd;rw[fF]
theorem len_take'(h:m<=es.length):(es.take m).length=m:=by rw[List.length_take];omega
theorem cN(a:OB)(h:i+1<es.length):nxt es i a=some (ky es (i+1)):=by unfold nxt;rw[if_pos h]
theorem eT(a:OB)(h:¬i+1<es.length):nxt es i a=a:=by unfold nxt;rw[if_neg h]
theorem sN{b:ByteArray}(h:kl a b=true)(c:hiR hi b):hiR hi a:=by
 cases hi with
 | none=>trivial
 | some u=>exact kM h c
theorem aJQ{b:ByteArray}(h:kl a b=true)(c:loR lo a):loR lo b:=by
 cases lo with
 | none=>trivial
 | some l=>exact gO c (fN h)
theorem uA(h:Srt es)(m:Nat)(b:m<=es.length):Srt (es.take m):=fun i j c a=>by
 rw[len_take' b]at a;rw[eN (by omega),eN a];exact h i j c (by omega)
theorem aAP(h:Srt es)(m:Nat):Srt (es.drop m):=fun i j b a=>by
 rw[List.length_drop]at a;rw[gH,gH];exact h _ _ (by omega) (by omega)
theorem eE.strict{l:ByteArray}(h:eE es (some l) hi)(a:0<m)(b:m<es.length):kl l (ky es m)=true:=
 lD (h.lo 0 (by omega)) (h.a6 0 m a b)
theorem Ok.ct(hd:nodes b=some (k,es))(n:Ok nodes h b lo hi)(v:0<m)(f:m<es.length)(o:nodes' q=some (k,es.take m))
  (u:∀c∈kids (k,es),∀h' lo' hi',Ok nodes h' c lo' hi'->Ok nodes' h' c lo' hi'/\sz nodes' c=sz nodes c):Ok nodes' h q lo (some (ky es m)):=by
 have p:∀{es:List E3},m<es.length->eE es lo hi->eE (es.take m) lo (some (ky es m)):=fun {es} f e=>by
  refine⟨uA e.a6 m (by omega),fun j a=>?_,fun j a=>?_,?_⟩
  ·rw[len_take' (by omega)]at a;rw[eN a];exact e.lo j (by omega)
  ·rw[len_take' (by omega)]at a;rw[eN a];exact e.a6 j m a f
  ·rw[len_take' (by omega)];have:=e.bz;omega
 cases h with
 | zero=>
  obtain⟨es',d,g,i⟩:=n;rw[hd]at d;cases d;refine⟨_,o,p f g,fun j a=>?_⟩;rw[len_take' (by omega)]at a;rw[fX _ _ _ a];exact i j (by omega)
 | succ h=>
  obtain⟨es',d,g,i,r,l⟩:=n;rw[hd]at d;cases d;refine⟨_,o,p f g,oZ f v,fun j a=>?_,fun j a=>?_⟩
  ·rw[len_take' (by omega)]at a
   rw[fX _ _ _ a];exact r j (by omega)
  ·rw[len_take' (by omega)]at a
   obtain⟨s,t⟩:=u _ (aR (show j<es.length by omega)) _ _ _ (l j (by omega)).2;rw[aEB a,eN a];refine⟨by rw[t];exact(l j (by omega)).1,?_⟩;have:nxt (es.take m) j (some (ky es m))=nxt es j hi:=by
    rw[cN (es:=es) hi (by omega)];by_cases e:j+1<m
    ·rw[cN _ (by rw[len_take' (by omega)];exact e),eN e]
    ·rw[eT _ (by rw[len_take' (by omega)];exact e),show j+1=m from by omega]
   rw[this];exact s
theorem Ok.cg(hd:nodes b=some (k,es))(n:Ok nodes h b lo hi)(f:m<es.length)(o:nodes' q=some (k,es.drop m))
  (u:∀c∈kids (k,es),∀h' lo' hi',Ok nodes h' c lo' hi'->Ok nodes' h' c lo' hi'/\sz nodes' c=sz nodes c):Ok nodes' h q (some (ky es m)) hi:=by
 have p:∀{es:List E3},m<es.length->eE es lo hi->eE (es.drop m) (some (ky es m)) hi:=fun {es} f e=>by
  refine⟨aAP e.a6 m,fun j a=>?_,fun j a=>?_,?_⟩
  ·rw[List.length_drop]at a;rw[gH]
   by_cases e0:j=0
   ·subst e0;exact eI _
   ·exact fN (e.a6 m (m+j) (by omega) (by omega))
  ·rw[List.length_drop]at a;rw[gH];exact e.hi _ (by omega)
  ·rw[List.length_drop];have:=e.bz;omega
 cases h with
 | zero=>
  obtain⟨es',d,g,i⟩:=n;rw[hd]at d;cases d;refine⟨_,o,p f g,fun j a=>?_⟩;rw[List.length_drop]at a;rw[fF];exact i _ (by omega)
 | succ h=>
  obtain⟨es',d,g,i,r,l⟩:=n;rw[hd]at d;cases d;refine⟨_,o,p f g,nS f,fun j a=>?_,fun j a=>?_⟩
  ·rw[List.length_drop]at a
   rw[fF];exact r _ (by omega)
  ·rw[List.length_drop]at a
   obtain⟨s,t⟩:=u _ (aR (show m+j<es.length by omega)) _ _ _ (l (m+j) (by omega)).2;rw[aEA,gH];refine⟨by rw[t];exact(l _ (by omega)).1,?_⟩;have:nxt (es.drop m) j hi=nxt es (m+j) hi:=by
    unfold nxt;rw[List.length_drop,gH];by_cases e:m+j+1<es.length
    ·rw[if_pos (by omega),if_pos e,show m+(j+1)=m+j+1 from by omega]
    ·rw[if_neg (by omega),if_neg e]
   rw[this];exact s
theorem Wk.split(w:Wk f t H)(p:aO f t H P b (h+1) lo hi)(o:f.n b=some (2,es))(h5:es.length<5)(hi':i<es.length){ces:List E3}(hd:f.n (kd es i)=some (k,ces))(h1:cu f (kd es i)=1)
  {m q:Nat} (hm:2<=m) (ik:m+2<=ces.length) (i9:2<=q) (nu:q<f.c.length) (hc:cu f q=0):
  let f':=splitF f b es i (kd es i) k ces m q (ky ces m)
  Wk f' t H/\aO f' t H P b (h+1) lo hi/\aO f' t H (b :: P) (kd es i) h (some (ky es i)) (some (ky ces m))/\aO f' t H (b :: P) q h (some (ky ces m)) (nxt es i hi)/\
   f'.n b=some (2,insE es (i+1) (ky ces m,.empty,(q:Int)))/\f'.n (kd es i)=some (k,ces.take m)/\f'.n q=some (k,ces.drop m)/\(cJ f t H->cJ f' t H):=by
 intro f';obtain⟨I1,N⟩:=w.ic.split (key:=ky ces m) (m:=m) o hi' (rfl:kd es i=_) hd (by omega) (by omega) i9 nu hc;have R:f.n q=none:=(w.ic.bb.dead q).2 hc;have eS:=aR hi';have nn:kd es i≠b:=fun e=>w.ic.ag o (by rw[<-e];exact eS);have BC:kd es i≠q:=fun e=>by rw[e,R]at hd;cases hd
 have qx:b≠q:=fun e=>by rw[e,R]at o;cases o
 have BQ:=w.ic.ag hd;obtain⟨es',e1,r,e3,e4,I⟩:=(p.ok w.ok).1;rw[o]at e1;cases e1;have F:f'.n b=some (2,insE es (i+1) (ky ces m,.empty,(q:Int))):=by rw[N,aE]
 have nq:f'.n q=some (k,ces.drop m):=by rw[N,aC _ _ (Ne.symm qx),aE]
 have W:f'.n (kd es i)=some (k,ces.take m):=by rw[N,aC _ _ nn,aC _ _ BC,aE]
 have nx:∀x,x≠b->x≠q->x≠kd es i->f'.n x=f.n x:=fun x h1 h2 h3=>by rw[N,aC _ _ h1,aC _ _ h2,aC _ _ h3]
 have T:∀{x:Nat} {d':Nd},f.n x=some d'->x≠q:=fun B e=>by rw[e,R]at B;cases B
 have IG:∀x,x=kd es i->cu f x=1/\x∈kids (2,es):=fun x q1=>by rw[q1];exact⟨h1,eS⟩
 have IL:∀x d,f.n x=some d->x≠b->¬x=kd es i->f'.n x=some d:=fun x d B xe BX=>by rw[nx x xe (T B) BX];exact B
 have fr:=fun {x:Nat} {d':Nd} (B:f.n x=some d')=>p.fr w.ic w.tl o (nodes':=f'.n) (fun x=>x=kd es i) IG IL B;have O:∀x,cu f' x=if q=x then 1 else cu f x:=fun x=>dW (f:=setN f (kd es i) (k,ces.take m)) (k,ces.drop m) nu x;have V:∀y∈b :: P,cu f' y=cu f y:=fun y J=>by
  obtain⟨dy,Q⟩:=p.live w.ic w.tl y J;rw[O,if_neg (Ne.symm (T Q))]
 have wl:∀c∈kids (k,ces),∀U lo' hi',Ok f.n U c lo' hi'->Ok f'.n U c lo' hi'/\sz f'.n c=sz f.n c:=fun c G U lo' hi' hk=>by
  obtain⟨dc,j8⟩:=w.ic.af hd G;exact fr j8 (p.az w.ic o eS hd G).1 (fun v=>BQ (v▸G)) hk
 have C3:∀y∈P,f'.n y=f.n y:=fun y J=>by
  obtain⟨dy,Q⟩:=p.live w.ic w.tl y (List.mem_cons_of_mem _ J);refine nx y (fun e=>?_) (T Q) fun v=>?_
  ·obtain⟨xd,hh⟩:=w.ic.ht
   have:=p.high hh y J;rw[e]at this;omega
  ·exact p.ax w.ic o eS (v▸List.mem_cons_of_mem _ J)
 have p':aO f' t H P b (h+1) lo hi:=p.mono rfl V C3;have IW:eE ces (some (ky es i)) (nxt es i hi):=by
  have:=(I i hi').2
  cases h with
  | zero=>obtain⟨_,g,l,_⟩:=this;rw[hd]at g;cases g;exact l
  | succ h=>obtain⟨_,g,l,_⟩:=this;rw[hd]at g;cases g;exact l
 have S:kl (ky es i) (ky ces m)=true:=IW.strict (by omega) (by omega);have M:hiR (nxt es i hi) (ky ces m):=IW.hi m (by omega);have FJ:i+1<es.length->kl (ky ces m) (ky es (i+1))=true:=fun ai=>by rw[cN _ ai]at M;exact M
 have Y:Ok f'.n h (kd es i) (some (ky es i)) (some (ky ces m)):=Ok.ct hd (I i hi').2 (by omega) (by omega) W wl;have Z:Ok f'.n h q (some (ky ces m)) (nxt es i hi):=Ok.cg hd (I i hi').2 (by omega) nq wl;have u:=aED (es:=es) (i:=i+1) (by omega) (ky ces m,.empty,(q:Int));have E:=aMF (es:=es) (i:=i+1) (by omega) (ky ces m,.empty,(q:Int));have SM:ch (ky ces m,.empty,(q:Int))=q:=by simp[ch]
 rw[SM]at E;have n:=iT es (i+1) (ky ces m,.empty,(q:Int));have X:∀j,j<i->nxt (insE es (i+1) (ky ces m,.empty,(q:Int))) j hi=nxt es j hi:=fun j z=>by
  rw[cN _ (by rw[n];omega),cN _ (by omega),u,if_pos (by omega)]
 have K:nxt (insE es (i+1) (ky ces m,.empty,(q:Int))) i hi=some (ky ces m):=by
  rw[cN _ (by rw[n];omega),u,if_neg (by omega),if_pos rfl]
 have C:∀j,i<j->nxt (insE es (i+1) (ky ces m,.empty,(q:Int))) j hi=nxt es (j-1) hi:=fun j z=>by
  by_cases e:j<es.length
  ·rw[cN _ (by rw[n];omega),cN _ (by omega),u,if_neg (by omega),if_neg (by omega),show j+1-1=j-1+1 from by omega]
  ·rw[eT _ (by rw[n];omega),eT _ (by omega)]
 have Zu:sz f'.n (kd es i)=m:=by unfold sz;rw[W];exact len_take' (by omega)
 have Tq:sz f'.n q=ces.length-m:=by unfold sz;rw[nq];exact List.length_drop
 refine⟨w.step p I1 rfl o (fun x=>x=kd es i) IG IL ?_ ?_,p',?_,?_,F,W,nq,fun D=>p.rt rfl C3 (fun h0 V=>?_) D⟩
 ·refine⟨_,F,⟨?_,?_,?_,by rw[n];omega⟩,by intro e;rw[e]at n;simp at n,?_,?_⟩
  ·intro a c y8 G
   rw[n]at G;rw[u,u];by_cases g:a<i+1
   ·rw[if_pos g]
    by_cases c1:c<i+1
    ·rw[if_pos c1];exact r.a6 a c y8 (by omega)
    ·rw[if_neg c1]
     have YN:kl (ky es a) (ky ces m)=true:=by
      by_cases e:a=i
      ·rw[e];exact S
      ·exact kM (r.a6 a i (by omega) hi') S
     by_cases c2:c=i+1
     ·rw[if_pos c2];exact YN
     ·rw[if_neg c2];exact r.a6 a (c-1) (by omega) (by omega)
   ·rw[if_neg g,if_neg (show ¬c<i+1 by omega),if_neg (show ¬c=i+1 by omega)]
    by_cases l:a=i+1
    ·rw[if_pos l]
     have:=FJ (by omega)
     by_cases e:c-1=i+1
     ·rw[e];exact this
     ·exact kM this (r.a6 (i+1) (c-1) (by omega) (by omega))
    ·rw[if_neg l];exact r.a6 (a-1) (c-1) (by omega) (by omega)
  ·intro j z
   rw[n]at z;rw[u];by_cases g:j<i+1
   ·rw[if_pos g];exact r.lo j (by omega)
   ·rw[if_neg g]
    by_cases l:j=i+1
    ·rw[if_pos l];exact aJQ S (r.lo i hi')
    ·rw[if_neg l];exact r.lo _ (by omega)
  ·intro j z
   rw[n]at z;rw[u];by_cases g:j<i+1
   ·rw[if_pos g];exact r.hi j (by omega)
   ·rw[if_neg g]
    by_cases l:j=i+1
    ·rw[if_pos l]
     by_cases e:i+1<es.length
     ·exact sN (FJ e) (r.hi _ e)
     ·rw[eT _ e]at M;exact M
    ·rw[if_neg l];exact r.hi _ (by omega)
  ·intro j z
   rw[n]at z;rw[jN _ _ _ _ (by omega)];split
   ·exact e4 j (by omega)
   ·split
    ·rfl
    ·exact e4 _ (by omega)
  ·intro j z
   rw[n]at z;have s:∀A,A<es.length->A≠i->2<=sz f'.n (kd es A)/\Ok f'.n h (kd es A) (some (ky es A)) (nxt es A hi):=fun A L au=>by
    obtain⟨dj,Kq⟩:=w.ic.af o (aR L);obtain⟨g1,g2⟩:=fr Kq (p.ax w.ic o (aR L)) (fun v=>au (eA (w.ic.only h1 o eS).2.1 hi' L v)) (I A L).2;exact⟨by rw[g2];exact(I A L).1,g1⟩
   rw[E,u];by_cases g:j<i+1
   ·rw[if_pos g,if_pos g]
    by_cases e:j=i
    ·subst e;rw[K];exact⟨by rw[Zu];exact hm,Y⟩
    ·rw[X j (by omega)];exact s j (by omega) e
   ·rw[if_neg g,if_neg g]
    by_cases l:j=i+1
    ·rw[if_pos l,if_pos l,l,C (i+1) (by omega)]
     exact⟨by rw[Tq];omega,Z⟩
    ·rw[if_neg l,if_neg l,C j (by omega)];exact s _ (by omega) (by omega)
 ·intro Rj
  unfold sz;rw[F];simp only[n];have:=(p.ok w.ok).2 Rj;unfold sz at this;rw[o]at this;simp only at this;omega
 ·have:=aO.down p' F (i:=i) (by rw[n];omega) (by rw[E,if_pos (by omega),O,if_neg (Ne.symm BC)];exact h1)
  rw[E,if_pos (by omega),u,if_pos (by omega),K]at this;exact this
 ·have:=aO.down p' F (i:=i+1) (by rw[n];omega) (by rw[E,if_neg (by omega),if_pos rfl,O,if_pos rfl])
  rw[E,if_neg (by omega),if_pos rfl,u,if_neg (by omega),if_pos rfl,C _ (by omega)]at this;exact this
 ·rcases D with D | D
  ·omega
  ·rcases p.top with⟨_,v,_⟩ | ⟨v,_⟩
   ·unfold sz at D |-;rw[F];rw[<-v,o]at D;simp only[n]at *;omega
   ·rw[V]at v;cases v
