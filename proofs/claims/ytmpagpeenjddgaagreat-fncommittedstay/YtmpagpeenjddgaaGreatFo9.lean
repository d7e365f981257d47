import Derived.Test.YtmpagpeenjddgaaGreatFo1
set_option linter.all false
namespace Go.Proofs.YtmpagpeenjddgaaGreat.Fo
def aB(f:fZ)(t:Nat):Nat:=(f.r.getD t (0,0)).2.toNat
theorem aP{f:fZ}{t:Nat}(h:t<f.r.length):f.r.getD t (0,0)∈f.r:=by
 rw[gD,gE h];exact List.getElem_mem h
def aN(f:fZ)(t H:Nat):List Nat->Nat->Nat->OB->OB->Prop
 | [],b,h,lo,hi=>cu f (aB f t)=1/\b=aB f t/\h=H/\lo=none/\hi=none
 | q :: P,c,h,lo,hi=>∃lo0 Fk es i,aN f t H P q (h+1) lo0 Fk/\f.n q=some (2,es)/\i<es.length/\cu f (kd es i)=1/\c=kd es i/\lo=some (ky es i)/\hi=nxt es i Fk
theorem aN.here{f:fZ}{t H:Nat}(h:cu f (aB f t)=1):aN f t H [] (aB f t) H none none:=⟨h,rfl,rfl,rfl,rfl⟩
theorem aN.down{f:fZ}{t H:Nat}{P:List Nat}{b h:Nat}{lo hi:OB}{es:List E3}{i:Nat}(p:aN f t H P b (h+1) lo hi)(hn:f.n b=some (2,es))(a:i<es.length)(hc:cu f (kd es i)=1):aN f t H (b :: P) (kd es i) h (some (ky es i)) (nxt es i hi):=⟨lo,hi,es,i,p,hn,a,hc,rfl,rfl,rfl⟩
theorem aN.ind{f:fZ}{t H:Nat}{motive:∀(P:List Nat) (b h:Nat) (lo hi:OB),aN f t H P b h lo hi->Prop}(here:∀h:cu f (aB f t)=1,motive [] (aB f t) H none none (aN.here h))
  (down:∀{P:List Nat} {b h:Nat} {lo hi:OB} {es:List E3} {i:Nat} (p:aN f t H P b (h+1) lo hi) (hn:f.n b=some (2,es)) (ap:i<es.length) (hc:cu f (kd es i)=1),motive P b (h+1) lo hi p->motive (b :: P) (kd es i) h (some (ky es i)) (nxt es i hi) (aN.down p hn ap hc)):
  ∀{P:List Nat} {b h:Nat} {lo hi:OB} (p:aN f t H P b h lo hi),motive P b h lo hi p:=by
 intro P;induction P with
 | nil=>
  intro b h lo hi p;obtain⟨a,rfl,rfl,rfl,rfl⟩:=p;exact here a
 | cons q P ih=>
  intro b h lo hi p;obtain⟨e,g,es,i,p,a,c,d,rfl,rfl,rfl⟩:=p;exact down p a c d (ih p)
section
variable {f : fZ} {t H : Nat}
theorem aN.named(h:IC f)(ht:t<f.r.length){P:List Nat}{b hb:Nat}{lo hi:OB}(p:aN f t H P b hb lo hi):
  ∀y∈b :: P,cu f y=1/\(∀x d,f.n x=some d->y∈kids d->x∈P)/\(y=aB f t\/rc f.r y=0):=by
 induction p using aN.ind with
 | here c=>
  intro y a;simp only[List.mem_cons,List.not_mem_nil,or_false]at a;subst a;exact⟨c,fun x d g e=>absurd e ((h.a2 (aP ht) c).2 x d g),.inl rfl⟩
 | @down P b q lo hi es i p o n c ih=>
  intro y a;rcases List.mem_cons.1 a with rfl | a
  ·have j:=h.only c o (aQ n)
   exact⟨c,fun x d g e=>by rw[j.2.2 x d g e];exact List.mem_cons_self,.inr j.1⟩
  ·obtain⟨k,l,m⟩:=ih y a
   exact⟨k,fun x d g e=>List.mem_cons_of_mem _ (l x d g e),m⟩
theorem aN.high{te:Nat->Nat}(e:Hts f.n te){P:List Nat}{b hb:Nat}{lo hi:OB}(p:aN f t H P b hb lo hi):∀y∈P,te b<te y:=by
 induction p using aN.ind with
 | here d=>intro y a;simp at a
 | @down P b h lo hi es i p g c d ih=>
  intro y a;have j:=eP (e b _ g) (aQ c);rcases List.mem_cons.1 a with rfl | a
  ·omega
  ·have:=ih y a;omega
theorem aN.ok{P:List Nat}{b hb:Nat}{lo hi:OB}(p:aN f t H P b hb lo hi)(h:Ok f.n H (aB f t) none none):Ok f.n hb b lo hi/\(P≠[]->2<=sz f.n b):=by
 induction p using aN.ind with
 | here e=>exact⟨h,fun q=>absurd rfl q⟩
 | @down P b j lo hi es i p g a e ih=>
  obtain⟨es',c,_,_,_,d⟩:=ih.1;rw[g]at c;cases c;exact⟨(d i a).2,fun _=>(d i a).1⟩
theorem aN.live(h:IC f)(ht:t<f.r.length){P:List Nat}{b hb:Nat}{lo hi:OB}(p:aN f t H P b hb lo hi):∀y∈b :: P,∃d,f.n y=some d:=fun y a=>
 h.live (by rw[(p.named h ht y a).1];omega)
theorem dZ{es:List E3}{i j:Nat}(h1:(kids (2,es)).count (kd es i)=1)(a:i<es.length)(b:j<es.length)(e:kd es j=kd es i):j=i:=by
 rw[gP]at h1;have d:(es.map ch).getD i 0=kd es i:=gO _ _ a;have c:(es.map ch).getD j 0=kd es i:=(gO _ _ b).trans e;generalize kd es i=x at *;have a:i <(es.map ch).length:=by simpa using a
 have b:j <(es.map ch).length:=by simpa using b
 generalize es.map ch=l at *;by_cases f:j=i
 ·exact f
 ·exfalso
  have:=fT l i x a
  rw[d,cF,h1]at this;have g:(delE l i).count x=0:=by omega
  refine List.count_eq_zero.1 g ?_;rw[gD,gE b]at c;simp only[Option.getD_some]at c;rw[<-c];unfold delE;by_cases h:j<i
  ·exact List.mem_append_left _ (List.mem_take_iff_getElem.2 ⟨j,by omega,rfl⟩)
  ·refine List.mem_append_right _ (List.mem_drop_iff_getElem.2 ⟨j -(i+1),by omega,?_⟩)
   congr 1;omega
theorem aN.upd(h:IC f)(ht:t<f.r.length){P:List Nat}{b hb:Nat}{lo hi:OB}(p:aN f t H P b hb lo hi)(ho:Ok f.n H (aB f t) none none){es:List E3}{k:Int}(A:f.n b=some (k,es))
  {nodes':Nat->Option Nd} (C:Nat->Prop) (n:∀x,C x->cu f x=1/\x∈kids (k,es)) (L:∀x d,f.n x=some d->x≠b->¬C x->nodes' x=some d)
  (Z:Ok nodes' hb b lo hi) (ay:P≠[]->2<=sz nodes' b):
  Ok nodes' H (aB f t) none none/\(∀u,u<f.r.length->u≠t->nodes' (aB f u)=f.n (aB f u)/\∀hu,Ok f.n hu (aB f u) none none->Ok nodes' hu (aB f u) none none):=by
 obtain⟨te,w⟩:=h.ht;have G:=p.named h ht;have F:=p.high w;let U:Nat->Prop:=fun x=>(∃d,f.n x=some d)/\x∉b :: P/\¬C x;have mi:∀x d,U x->f.n x=some d->∀c∈kids d,U c:=fun x d ⟨_,E,R⟩ g c l=>by
  refine⟨h.af g l,fun y=>?_,fun s=>?_⟩
  ·exact E (List.mem_cons_of_mem _ ((G c y).2.1 x d g l))
  ·have:=(h.only (n c s).1 A (n c s).2).2.2 x d g l
   exact E (this▸List.mem_cons_self)
 have K:∀x,U x->nodes' x=f.n x:=fun x ⟨⟨d,m⟩,E,R⟩=>by
  rw[m];exact L x d m (fun e=>E (e▸List.mem_cons_self)) R
 have Y:=Ok.frame mi K;have N:∀x∈P,nodes' x=f.n x:=fun x g=>by
  obtain⟨d,m⟩:=p.live h ht x (List.mem_cons_of_mem _ g);rw[m];refine L x d m (fun e=>by have:=F x g;rw[e]at this;omega) fun l=>?_;have B:=eP (ht:=te) (v:=te b) (es:=es) (c:=x) (by
   have:=(cM (n x l).2).1;subst this;exact w b _ A) (by
   have:=(cM (n x l).2).1;subst this;exact(n x l).2)
  have:=F x g;omega
 have S:∀x∈P,∀d,f.n x=some d->∀c∈kids d,U c\/c∈b :: P:=fun x g d m c l=>by
  by_cases y:c∈b :: P
  ·exact .inr y
  ·refine .inl ⟨h.af m l,y,fun s=>?_⟩
   have:=(h.only (n c s).1 A (n c s).2).2.2 x d m l
   have a:=F x g;rw[this]at a;omega
 refine⟨?_,fun u hu zt=>?_⟩
 ·clear G A n L
  clear_value U
  induction p using aN.ind with
  | here B=>exact Z
  | @down P b Lp lo hi es i p z V B ih=>
   have T:=p.ok ho;obtain⟨es',W,e2,e3,e4,X⟩:=T.1;rw[z]at W;cases W;have M:nodes' b=some (2,es):=by rw[N b List.mem_cons_self,z]
   have Q:=h.only B z (aQ V);have qk:∀j,j<es.length->j≠i->U (kd es j):=fun j o d9=>by
    rcases S b List.mem_cons_self _ z _ (aQ o)with q | q
    ·exact q
    ·exfalso
     rcases List.mem_cons.1 q with q | q
     ·exact d9 (dZ Q.2.1 V o q)
     ·have I:=eP (w b _ z) (aQ o)
      rcases List.mem_cons.1 q with q | q
      ·rw[q]at I;omega
      ·have:=p.high w _ q;omega
   refine ih ?_ ?_ ?_ ?_ ?_
   ·refine⟨es,M,e2,e3,e4,fun j o=>?_⟩
    by_cases e:j=i
    ·subst e;exact⟨ay (by simp),Z⟩
    ·refine⟨?_,Y _ _ _ _ (qk j o e) (X j o).2⟩
     unfold sz;rw[K _ (qk j o e)];exact(X j o).1
   ·intro hP
    have:=T.2 hP
    unfold sz at this |-;rw[z]at this;rw[M];exact this
   ·exact p.high w
   ·intro x g;exact N x (List.mem_cons_of_mem _ g)
   ·intro x g d m c l
    rcases S x (List.mem_cons_of_mem _ g) d m c l with q | q
    ·exact .inl q
    ·rcases List.mem_cons.1 q with q | q
     ·exfalso
      have:=Q.2.2 x d m (q▸l)
      have a:=p.high w x g;rw[this]at a;omega
     ·exact .inr q
 ·have O:U (aB f u):=?_
  ·exact⟨K _ O,fun k' sd=>Y k' _ _ _ O sd⟩
  refine⟨h.ao (aP hu),fun y=>?_,fun s=>?_⟩
  ·obtain⟨I,a2,D⟩:=G _ y
   have Fr:0<rc f.r (aB f u):=List.count_pos_iff.2 (List.mem_map_of_mem (aP hu));rcases D with D | D
   ·have B:=(h.a2 (aP hu) I).1
    have KN:=fT (f.r.map fun r=>r.2.toNat) u (aB f u) (by simpa using hu);have g1:(f.r.map fun r=>r.2.toNat).getD u 0=aB f u:=by simp[aB,gD,hu]
    have J:(f.r.map fun r=>r.2.toNat).getD t 0=aB f u:=by rw[D];simp[aB,gD,ht]
    rw[g1,cF]at KN;have MQ:(f.r.map fun r=>r.2.toNat).count (aB f u)=1:=B;have h0:(delE (f.r.map fun r=>r.2.toNat) u).count (aB f u)=0:=by omega
    refine List.count_eq_zero.1 h0 ?_;have fi:t <(f.r.map fun r=>r.2.toNat).length:=by simpa using ht
    rw[gD,gE fi]at J;simp only[Option.getD_some]at J;rw[<-J];unfold delE;by_cases ak:t<u
    ·exact List.mem_append_left _ (List.mem_take_iff_getElem.2 ⟨t,by omega,rfl⟩)
    ·refine List.mem_append_right _ (List.mem_drop_iff_getElem.2 ⟨t -(u+1),by omega,?_⟩)
     congr 1;omega
   ·omega
  ·have a:=(h.only (n _ s).1 A (n _ s).2).1
   have Fr:0<rc f.r (aB f u):=List.count_pos_iff.2 (List.mem_map_of_mem (aP hu));omega
end
end Go.Proofs.YtmpagpeenjddgaaGreat.Fo
namespace Go.Proofs.YtmpagpeenjddgaaGreat.Fo
theorem rY{α:Type}(l:List α)(z:α)(p:α->Bool)(g:∀i j,i<j->j<l.length->p (l.getD j z)=true->p (l.getD i z)=true):∀j,j<l.length->(p (l.getD j z)=true↔j <(l.filter p).length):=by
 induction l with
 | nil=>intro j b;simp at b
 | cons a l ih=>
  have d:=ih fun i j n b h=>by
   have:=g (i+1) (j+1) (by omega) (by simp;omega) (by simpa using h)
   simpa using this
  intro j b;cases c:p a with
  | true=>
   rw[List.filter_cons_of_pos c,List.length_cons];cases j with
   | zero=>simp[c]
   | succ j=>
    have:=d j (by simpa using b)
    simp only[List.getD_cons_succ];rw[this];omega
  | false=>
   have f:∀j,j<l.length->p (l.getD j z)=false:=fun j b=>by
    cases e:p (l.getD j z)with
    | false=>rfl
    | true=>
     have:=g 0 (j+1) (by omega) (by simp;omega) (by simpa using e)
     simp[c]at this
   have k:l.filter p=[]:=List.filter_eq_nil_iff.2 fun x m=>by
    obtain⟨j,b,rfl⟩:=List.mem_iff_getElem.1 m;have:=f j b;rw[gD,gE b]at this;simpa using this
   rw[List.filter_cons_of_neg (by simp[c]),k];cases j with
   | zero=>simp[c]
   | succ j=>simp only[List.getD_cons_succ];rw[f j (by simpa using b)];simp
def cLe(es:List E3)(key:ByteArray):Nat:=(es.filter fun e=>!kl key e.1).length
def cLt(es:List E3)(key:ByteArray):Nat:=(es.filter fun e=>kl e.1 key).length
def bI(es:List E3)(key:ByteArray):Nat:=cLe es key-1
theorem wO(es:List E3)(key:ByteArray):cLe es key<=es.length:=List.length_filter_le ..
theorem kV(es:List E3)(key:ByteArray):cLt es key<=es.length:=List.length_filter_le ..
theorem gH{es:List E3}(c:Srt es)(key:ByteArray){j:Nat}(b:j<es.length):kl key (ky es j)=false↔j<cLe es key:=by
 have:=rY es e0 (fun e=>!kl key e.1) (fun i j d b h=>by
  have a:=c i j d b;simp only[Bool.not_eq_true']at h |-;exact gQ (fJ a) h) j b
 simp only[Bool.not_eq_true']at this;exact this
theorem iD{es:List E3}(b:Srt es)(key:ByteArray){j:Nat}(a:j<es.length):kl (ky es j) key=true↔j<cLt es key:=
 rY es e0 (fun e=>kl e.1 key) (fun i j c a h=>kO (b i j c a) h) j a
theorem eJ{es:List E3}(key:ByteArray)(h:es≠[]):bI es key<es.length:=by
 have:=wO es key
 have:0<es.length:=List.length_pos_iff.2 h
 unfold bI;omega
theorem aLN{es:List E3}(b:Srt es)(key:ByteArray){j:Nat}(a:j<es.length)(h:bI es key<j):kl key (ky es j)=true:=by
 cases e:kl key (ky es j)with
 | true=>rfl
 | false=>have:=(gH b key a).1 e;unfold bI at h;omega
theorem aLO{es:List E3}(a:Srt es)(key:ByteArray)(b:kl key (ky es 0)=false)(hn:es≠[]):kl key (ky es (bI es key))=false:=by
 have c:0<es.length:=List.length_pos_iff.2 hn;have d:=(gH a key c).1 b;exact(gH a key (eJ key hn)).2 (by unfold bI;omega)
theorem aDO{es:List E3}(c:Srt es)(key:ByteArray){j:Nat}(e:j<es.length)(h1:kl key (ky es j)=false)(h2:j+1<es.length->kl key (ky es (j+1))=true):bI es key=j:=by
 have a:=(gH c key e).1 h1;have b:cLe es key<=j+1:=by
  refine Nat.le_of_not_lt fun d=>?_;have f:=wO es key;have:=(gH c key (j:=j+1) (by omega)).2 d;rw[h2 (by omega)]at this;cases this
 unfold bI;omega
theorem jR{α:Type}(l:List α)(i:Nat)(e z:α)(d:i<=l.length)(j:Nat):(insE l i e).getD j z=if j<i then l.getD j z else if j=i then e else l.getD (j-1) z:=by
 unfold insE;have b:(l.take i).length=i:=by rw[List.length_take];omega
 simp only[gD];by_cases a:j<i
 ·rw[if_pos a,List.getElem?_append_left (by rw[b];exact a),List.getElem?_take,if_pos a]
 ·rw[if_neg a,List.getElem?_append_right (by rw[b];omega),b]
  by_cases c:j=i
  ·subst c;simp
  ·rw[if_neg c]
   obtain⟨m,rfl⟩:∃m,j=i+(m+1):=⟨j-i-1,by omega⟩;rw[show i+(m+1)-i=m+1 from by omega,List.getElem?_cons_succ,List.getElem?_drop];congr 2
theorem iV{α:Type}(l:List α)(i:Nat)(e:α):(insE l i e).length=l.length+1:=by
 unfold insE;simp only[lP,List.length_cons,List.length_take,List.length_drop];omega
theorem iL{α:Type}(l:List α)(i:Nat)(z:α)(c:i<=l.length)(j:Nat):(delE l i).getD j z=if j<i then l.getD j z else l.getD (j+1) z:=by
 unfold delE;have b:(l.take i).length=i:=by rw[List.length_take];omega
 simp only[gD];by_cases a:j<i
 ·rw[if_pos a,List.getElem?_append_left (by rw[b];exact a),List.getElem?_take,if_pos a]
 ·rw[if_neg a,List.getElem?_append_right (by rw[b];omega),b,List.getElem?_drop]
  congr 2;omega
theorem bM{α:Type}(l:List α)(i:Nat)(h:i<l.length):(delE l i).length=l.length-1:=by
 unfold delE;simp only[lP,List.length_take,List.length_drop];omega
theorem fV{α:Type}(l:List α)(m:Nat)(z:α){j:Nat}(h:j<m):(l.take m).getD j z=l.getD j z:=by
 simp only[gD,List.getElem?_take,if_pos h]
theorem fA{α:Type}(l:List α)(m:Nat)(z:α)(j:Nat):(l.drop m).getD j z=l.getD (m+j) z:=by
 simp only[gD,List.getElem?_drop]
theorem bB{α:Type}(l:List α)(i j:Nat)(v z:α)(a:i<l.length):(l.set i v).getD j z=if j=i then v else l.getD j z:=by
 simp only[gD,List.getElem?_set];by_cases h:i=j
 ·subst h;simp[a]
 ·rw[if_neg h,if_neg (Ne.symm h)]
theorem dB{α:Type}(l m:List α)(j:Nat)(z:α):(l++m).getD j z=if j<l.length then l.getD j z else m.getD (j-l.length) z:=by
 simp only[gD];by_cases h:j<l.length
 ·rw[if_pos h,List.getElem?_append_left h]
 ·rw[if_neg h,List.getElem?_append_right (by omega)]
section
variable {f : fZ} {t H : Nat}
theorem aN.ax(h:IC f){P:List Nat}{b hb:Nat}{lo hi:OB}(p:aN f t H P b hb lo hi){d:Nd}(hd:f.n b=some d){c:Nat}(hc:c∈kids d):c∉b :: P:=by
 obtain⟨j,e⟩:=h.ht;obtain⟨k,es⟩:=d;have g:=(cM hc).1;subst g;have a:=eP (e b _ hd) hc;intro i;rcases List.mem_cons.1 i with q | q
 ·rw[q]at a;omega
 ·have:=p.high e c q;omega
theorem aN.az(h:IC f){P:List Nat}{b hb:Nat}{lo hi:OB}(p:aN f t H P b hb lo hi){d:Nd}(hd:f.n b=some d){c:Nat}(hc:c∈kids d){d':Nd}(l:f.n c=some d'){c':Nat}(i:c'∈kids d'):c'∉b :: P/\c'∉kids d:=by
 obtain⟨r,e⟩:=h.ht;obtain⟨k,es⟩:=d;obtain⟨o,es'⟩:=d';have m:=(cM hc).1;subst m;have n:=(cM i).1;subst n;have a:=eP (e b _ hd) hc;have j:=eP (e c _ l) i;refine⟨fun g=>?_,fun g=>?_⟩
 ·rcases List.mem_cons.1 g with q | q
  ·rw[q]at j;omega
  ·have:=p.high e c' q;omega
 ·have:=eP (e b _ hd) g;omega
theorem aN.fr(h:IC f)(ht:t<f.r.length){P:List Nat}{b hb:Nat}{lo hi:OB}(p:aN f t H P b hb lo hi){es:List E3}{k:Int}(q:f.n b=some (k,es))
  {nodes':Nat->Option Nd} (C:Nat->Prop) (j:∀x,C x->cu f x=1/\x∈kids (k,es)) (r:∀x d,f.n x=some d->x≠b->¬C x->nodes' x=some d)
  {x:Nat} {d:Nd} (hx:f.n x=some d) (m:x∉b :: P) (hc:¬C x) {bz:Nat} {lx ux:OB} (s:Ok f.n bz x lx ux):Ok nodes' bz x lx ux/\sz nodes' x=sz f.n x:=by
 have o:=p.named h ht;let U:Nat->Prop:=fun x=>(∃d,f.n x=some d)/\x∉b :: P/\¬C x;have v:∀x d,U x->f.n x=some d->∀c∈kids d,U c:=fun x d ⟨_,a,g⟩ hx c hc=>by
  refine⟨h.af hx hc,fun u=>?_,fun n=>?_⟩
  ·exact a (List.mem_cons_of_mem _ ((o c u).2.1 x d hx hc))
  ·have:=(h.only (j c n).1 q (j c n).2).2.2 x d hx hc
   exact a (this▸List.mem_cons_self)
 have i:∀x,U x->nodes' x=f.n x:=fun x ⟨⟨d,l⟩,a,g⟩=>by
  rw[l];exact r x d l (fun e=>a (e▸List.mem_cons_self)) g
 refine⟨Ok.frame v i _ _ _ _ ⟨⟨d,hx⟩,m,hc⟩ s,?_⟩;unfold sz;rw[i x ⟨⟨d,hx⟩,m,hc⟩]
theorem aN.mono{f':fZ}{P:List Nat}{b hb:Nat}{lo hi:OB}(p:aN f t H P b hb lo hi)(hr:aB f' t=aB f t)(hc:∀y∈b :: P,cu f' y=cu f y)(hn:∀y∈P,f'.n y=f.n y):aN f' t H P b hb lo hi:=by
 induction p using aN.ind with
 | here a=>
  rw[<-hr];exact aN.here (by rw[hr,hc _ List.mem_cons_self];exact a)
 | @down P b g lo hi es i p d e a ih=>
  refine aN.down (ih (fun y c=>hc y (List.mem_cons_of_mem _ c)) fun y c=>hn y (List.mem_cons_of_mem _ c)) ?_ e ?_
  ·rw[hn b List.mem_cons_self];exact d
  ·rw[hc _ List.mem_cons_self];exact a
end
structure Wk(f:fZ)(t H:Nat):Prop where
 ic:IC f
 tl:t<f.r.length
 ok:Ok f.n H (aB f t) none none
 eb:∀u,u<f.r.length->u≠t->∃h,Ok f.n h (aB f u) none none/\(h=0\/2<=sz f.n (aB f u))
theorem Wk.step{f f':fZ}{t H:Nat}(w:Wk f t H){P:List Nat}{b hb:Nat}{lo hi:OB}(p:aN f t H P b hb lo hi)(j:IC f')(hr:f'.r=f.r){es:List E3}{k:Int}(i:f.n b=some (k,es))(C:Nat->Prop)
  (r:∀x,C x->cu f x=1/\x∈kids (k,es)) (s:∀x d,f.n x=some d->x≠b->¬C x->f'.n x=some d) (v:Ok f'.n hb b lo hi) (l:P≠[]->2<=sz f'.n b):Wk f' t H:=by
 obtain⟨g1,m⟩:=p.upd w.ic w.tl w.ok i C r s v l;have e:∀u,aB f' u=aB f u:=fun u=>by unfold aB;rw[hr]
 refine⟨j,by rw[hr];exact w.tl,by rw[e];exact g1,fun u c g=>?_⟩;rw[hr]at c;obtain⟨h,q,a⟩:=w.eb u c g;obtain⟨n,o⟩:=m u c g;refine⟨h,by rw[e];exact o h q,?_⟩;rcases a with a | a
 ·exact .inl a
 ·refine .inr ?_
  unfold sz at a |-;rw[e,n];exact a
theorem aN.top{f:fZ}{t H:Nat}{P:List Nat}{b hb:Nat}{lo hi:OB}(p:aN f t H P b hb lo hi):(P=[]/\b=aB f t/\hb=H)\/(aB f t∈P/\0<H):=by
 induction p using aN.ind with
 | here c=>exact .inl ⟨rfl,rfl,rfl⟩
 | @down P b d lo hi es i p g e c ih=>
  rcases ih with⟨_,q,a⟩ | ⟨q,a⟩
  ·exact .inr ⟨by rw[q];exact List.mem_cons_self,by omega⟩
  ·exact .inr ⟨List.mem_cons_of_mem _ q,a⟩
def cI(f:fZ)(t H:Nat):Prop:=H=0\/2<=sz f.n (aB f t)
theorem aN.rt{f f':fZ}{t H:Nat}{P:List Nat}{b hb:Nat}{lo hi:OB}(p:aN f t H P b hb lo hi)(hr:aB f' t=aB f t)(hn:∀y∈P,f'.n y=f.n y)(c:0<H->P=[]->2<=sz f'.n b)(h:cI f t H):cI f' t H:=by
 rcases h with h | h
 ·exact .inl h
 ·by_cases a:H=0
  ·exact .inl a
  ·refine .inr ?_
   rw[hr];rcases p.top with⟨d,e,_⟩ | ⟨q,_⟩
   ·rw[<-e];exact c (by omega) d
   ·unfold sz at h |-;rw[hn _ q];exact h
def lowK(es:List E3)(key:ByteArray):List E3:=if kl key (ky es 0)=true then es.set 0 (key,(es.getD 0 e0).2)else es
theorem cN(es:List E3)(key:ByteArray):(lowK es key).length=es.length:=by unfold lowK;split<;>simp
theorem zX(es:List E3)(key:ByteArray)(j:Nat)(hn:es≠[]):((lowK es key).getD j e0).2=(es.getD j e0).2/\(0<j->ky (lowK es key) j=ky es j):=by
 have a:0<es.length:=List.length_pos_iff.2 hn;unfold lowK;split
 ·simp only[ky,bB _ _ _ _ _ a]
  by_cases e:j=0
  ·subst e;simp
  ·simp[e]
 ·exact⟨rfl,fun _=>rfl⟩
theorem vU(es:List E3)(key:ByteArray)(hn:es≠[]):kl key (ky (lowK es key) 0)=false/\(ky (lowK es key) 0=ky es 0\/(ky (lowK es key) 0=key/\kl key (ky es 0)=true)):=by
 have a:0<es.length:=List.length_pos_iff.2 hn;unfold lowK;split
 ·rename_i h
  have:ky (es.set 0 (key,(es.getD 0 e0).2)) 0=key:=by simp only[ky,bB _ _ _ _ _ a,if_true]
  rw[this];exact⟨eI _,.inr ⟨rfl,h⟩⟩
 ·rename_i h;exact⟨by simpa using h,.inl rfl⟩
theorem aFW(es:List E3)(key:ByteArray)(hn:es≠[]):kids (2,lowK es key)=kids (2,es):=by
 have a:0<es.length:=List.length_pos_iff.2 hn;rw[gP,gP];unfold lowK;split
 ·rw[List.map_set]
  have:ch (key,(es.getD 0 e0).2)=(es.map ch).getD 0 0:=(gO _ _ a).symm
  rw[this];refine List.ext_getElem? fun j=>?_;rw[List.getElem?_set];split
  ·rename_i h;subst h;simp[gD,a]
  ·rfl
 ·rfl
theorem nX{l:List E3}{j:Nat}(h:j<l.length):l.getD j e0∈l:=by
 rw[gD,gE h];exact List.getElem_mem h
theorem cO{l:List E3}{e:E3}(h:e∈l):∃j,j<l.length/\l.getD j e0=e:=by
 obtain⟨j,a,rfl⟩:=List.mem_iff_getElem.1 h;exact⟨j,a,by rw[gD,gE a];rfl⟩
theorem IC.ar{f:fZ}(h:IC f){b:Nat}{es:List E3}(hd:f.n b=some (2,es)){j:Nat}(a:j<es.length):0<=(es.getD j e0).2.2:=by
 rcases h.kb b _ hd with q | ⟨_,_,q⟩
 ·simp at q
 ·exact(q _ (nX a)).1
theorem Wk.bu{f:fZ}{t H:Nat}(w:Wk f t H){P:List Nat}{b h:Nat}{lo hi:OB}(p:aN f t H P b (h+1) lo hi){es:List E3}(g:f.n b=some (2,es))(key:ByteArray)(C:loR lo key):
  Wk (setN f b (2,lowK es key)) t H/\aN (setN f b (2,lowK es key)) t H P b (h+1) lo hi/\(cI f t H->cI (setN f b (2,lowK es key)) t H):=by
 obtain⟨es',F,n,s,K,G⟩:=(p.ok w.ok).1;rw[g]at F;cases F;have l:=fun j=>zX es key j s;have S:∀j,kd (lowK es key) j=kd es j:=fun j=>by unfold kd ch;rw[(l j).1]
 obtain⟨W,J⟩:=vU es key s;have M:IC (setN f b (2,lowK es key)):=w.ic.keys g (aFW es key s) fun _ e O=>by
  obtain⟨j,c,rfl⟩:=cO O;rw[cN]at c;rw[(l j).1];exact w.ic.ar g c
 have z:(setN f b (2,lowK es key)).n b=some (2,lowK es key):=aD _ _ _;have v:∀x,x≠b->(setN f b (2,lowK es key)).n x=f.n x:=fun x o=>aC _ _ o;have E:∀y∈P,y≠b:=fun y r e=>by
  obtain⟨V,Q⟩:=w.ic.ht;have:=p.high Q y r;rw[e]at this;omega
 have A:∀j,j<es.length->kl (ky es j) (ky (lowK es key) j)=false:=fun j c=>by
  cases j with
  | zero=>
   rcases J with q | ⟨q,I⟩
   ·rw[q];exact eI _
   ·rw[q];exact fJ I
  | succ j=>rw[(l (j+1)).2 (by omega)];exact eI _
 have T:∀j,nxt (lowK es key) j hi=nxt es j hi:=fun j=>by
  unfold nxt;rw[cN,(l (j+1)).2 (by omega)]
 refine⟨w.step p M rfl g (fun _=>False) (fun _ q=>q.elim) (fun x d o D _=>by rw[v x D];exact o) ?_ ?_,p.mono rfl (fun _ _=>rfl) (fun y r=>v y (E y r)),fun m=>p.rt rfl (fun y r=>v y (E y r)) (fun U B=>?_) m⟩
 ·refine⟨lowK es key,z,⟨?_,?_,?_,by rw[cN];exact n.bx⟩,?_,?_,?_⟩
  ·intro i j R c
   rw[cN]at c;rw[(l j).2 (by omega)];exact lF (A i (by omega)) (n.a6 i j R c)
  ·intro j c
   rw[cN]at c;cases j with
   | zero=>
    rcases J with q | ⟨q,I⟩
    ·rw[q];exact n.lo 0 c
    ·rw[q];exact C
   | succ j=>rw[(l (j+1)).2 (by omega)];exact n.lo _ c
  ·intro j c
   rw[cN]at c;have a:=n.hi j c;cases hi with
   | none=>trivial
   | some u=>exact lF (A j c) a
  ·intro q;exact s (List.length_eq_zero_iff.1 (by rw[<-cN es key,q];rfl))
  ·intro j c;rw[cN]at c;rw[(l j).1];exact K j c
  ·intro j c
   rw[cN]at c;rw[S,T];obtain⟨d,N⟩:=w.ic.af g (aQ c);obtain⟨g1,L⟩:=p.fr w.ic w.tl g (nodes':=(setN f b (2,lowK es key)).n) (fun _=>False) (fun _ q=>q.elim) (fun x d o D _=>by rw[v x D];exact o) N (p.ax w.ic g (aQ c)) id (G j c).2;refine⟨by rw[L];exact(G j c).1,g1.wide (fun k C=>?_) fun _ q=>q⟩;exact gQ (A j c) C
 ·intro B
  have:=(p.ok w.ok).2 B
  unfold sz at this |-;rw[z];rw[g]at this;simp only[cN]at *;exact this
 ·rcases m with m | m
  ·omega
  ·rcases p.top with⟨_,q,_⟩ | ⟨q,_⟩
   ·unfold sz at m |-;rw[z];rw[<-q,g]at m;simp only[cN]at *;exact m
   ·rw[B]at q;cases q
end Go.Proofs.YtmpagpeenjddgaaGreat.Fo
namespace Go.Proofs.YtmpagpeenjddgaaGreat.Fo
variable{a:ByteArray}{k:Int}{es:List E3}{P:List Nat}{H b h i j m q t x:Nat}{nodes nodes':Nat->Option Nd}{d:Nd}{hi lo:OB}{f:fZ}
theorem nB(h:IC f){u:Nat}(ht:t<f.r.length)(c:u<f.r.length)(l:u≠t)(h1:cu f (aB f t)=1):aB f u≠aB f t:=fun e=>by
 have a:=(h.a2 (aP ht) h1).1;have d:=fT (f.r.map fun r=>r.2.toNat) t (aB f t) (by simpa using ht);have g1:(f.r.map fun r=>r.2.toNat).getD t 0=aB f t:=by simp[aB,gD,ht]
 have b:(f.r.map fun r=>r.2.toNat).getD u 0=aB f t:=by rw[<-e];simp[aB,gD,c]
 rw[g1,cF]at d;have j:(f.r.map fun r=>r.2.toNat).count (aB f t)=1:=a;have i:(delE (f.r.map fun r=>r.2.toNat) t).count (aB f t)=0:=by omega
 refine List.count_eq_zero.1 i ?_;have g:u <(f.r.map fun r=>r.2.toNat).length:=by simpa using c
 rw[gD,gE g]at b;simp only[Option.getD_some]at b;rw[<-b];unfold delE;by_cases k:u<t
 ·exact List.mem_append_left _ (List.mem_take_iff_getElem.2 ⟨u,by omega,rfl⟩)
 ·refine List.mem_append_right _ (List.mem_drop_iff_getElem.2 ⟨u -(t+1),by omega,?_⟩)
  congr 1;omega
theorem nQ(a:b<f.c.length)(hd:f.n b=some d)(g:∀c∈kids d,c<f.c.length)(h1:x≠b)(h2:x∉kids d):cu (letGo f b) x=cu f x:=by
 by_cases e:cu f b=1
 ·unfold letGo;rw[if_pos e]
  show(List.set _ b 0).getD x 0=_
  rw[fH _ _ _ _ a,if_neg (Ne.symm h1)]
 ·rw[rN a hd g e,if_neg (Ne.symm h1),List.count_eq_zero.2 h2];simp
theorem vD(h:IC f){L:Loc}(o:dT f L)(j:bK f L=b)(hd:f.n b=some d)(u:q<f.c.length)(hc:cu f q=0)(h1:x≠b)(h2:x∉kids d)(h3:x≠q):
  cu (shadowAt f L q) x=cu f x:=by
 have g:f.n q=none:=(h.a8.dead q).2 hc;have l:b≠q:=fun e=>by rw[e,g]at hd;cases hd
 have s:shadowAt f L q=letGo (setL (takeAt f q d) L q) b:=by unfold shadowAt;rw[j,aE hd]
 have k:(setL (takeAt f q d) L q).c.length=f.c.length:=by rw[bF];simp[takeAt]
 have w:(setL (takeAt f q d) L q).n b=some d:=by
  cases L with
  | inl t=>show upd f.n q (some d) b=_;rw[aC _ _ l];exact hd
  | inr n=>
   obtain⟨p,i⟩:=n;obtain⟨A,es,a,r⟩:=o;have z:p≠q:=fun e=>by rw[e,g]at a;cases a
   have m:look f p=(2,es):=aE a;have v:b∈kids (2,es):=by rw[<-j];simp only[bK,m];exact gR r
   have y:p≠b:=fun e=>h.ag a (e▸v);simp only[setL,setN];rw[aC _ _ (Ne.symm y)];show upd f.n q (some d) b=_;rw[aC _ _ l];exact hd
 rw[s,nQ (by rw[k];exact h.lt hd) w (fun c hc=>by rw[k];exact h.bf hd hc) h1 h2];unfold cu;rw[bF];have:=dV d u x;unfold cu at this;rw[this,if_neg (Ne.symm h3)]
theorem eO(f:fZ)(b i q:Nat):(shadowAt f (.ai b i) q).r=f.r:=by
 unfold shadowAt;rw[dX];rfl
theorem dL(f:fZ)(t q:Nat):(shadowAt f (.root t) q).r=f.r.set t ((f.r.getD t (0,0)).1,(q:Int)):=by
 unfold shadowAt;rw[dX];rfl
theorem Ok.copy(hd:nodes b=some d)(k:nodes' q=some d)(i:Ok nodes h b lo hi)
  (o:∀c∈kids d,∀h' lo' ap,Ok nodes h' c lo' ap->Ok nodes' h' c lo' ap/\sz nodes' c=sz nodes c):Ok nodes' h q lo hi:=by
 cases h with
 | zero=>obtain⟨es,a,e⟩:=i;rw[hd]at a;cases a;exact⟨es,k,e⟩
 | succ h=>
  obtain⟨es,a,e,l,m,g⟩:=i;rw[hd]at a;cases a;refine⟨es,k,e,l,m,fun j f=>?_⟩;obtain⟨g1,n⟩:=o _ (aQ f) _ _ _ (g j f).2;exact⟨by rw[n];exact(g j f).1,g1⟩
theorem Wk.cq(w:Wk f t H)(p:aN f t H P b (h+1) lo hi)(g:f.n b=some (2,es))(r:i<es.length)(hd:f.n (kd es i)=some d)(iw:2<=q)(ng:q<f.c.length)(hc:cu f q=0):
  Wk (shadowAt f (.ai b i) q) t H/\aN (shadowAt f (.ai b i) q) t H P b (h+1) lo hi/\aN (shadowAt f (.ai b i) q) t H (b :: P) q h (some (ky es i)) (nxt es i hi)/\
   (shadowAt f (.ai b i) q).n b=some (setE (2,es) i q)/\(shadowAt f (.ai b i) q).n q=some d/\cu (shadowAt f (.ai b i) q) q=1/\(shadowAt f (.ai b i) q).m=f.m/\(shadowAt f (.ai b i) q).c.length=f.c.length/\(cI f t H->cI (shadowAt f (.ai b i) q) t H):=by
 have Y:look f b=(2,es):=aE g;have hL:dT f (.ai b i):=⟨w.ic.lt g,es,g,r⟩;have hg:bK f (.ai b i)=kd es i:=by simp only[bK,Y];rfl
 obtain⟨I1,I,I3,I4,T⟩:=w.ic.shadow hL hg hd iw ng hc;have K:f.n q=none:=(w.ic.a8.dead q).2 hc;have s:=aQ r;have sa:kd es i≠b:=fun e=>w.ic.ag g (by rw[<-e];exact s);have Ag:kd es i≠q:=fun e=>by rw[e,K]at hd;cases hd
 have qo:b≠q:=fun e=>by rw[e,K]at g;cases g
 have Av:=w.ic.ag hd;obtain⟨es',W,C,e3,e4,D⟩:=(p.ok w.ok).1;rw[g]at W;cases W;have nb:(shadowAt f (.ai b i) q).n b=some (setE (2,es) i q):=by
  rw[I];unfold shN cpN;simp only[Y];split
  ·rw[aC _ _ (Ne.symm sa),aD]
  ·rw[aD]
 have nq:(shadowAt f (.ai b i) q).n q=some d:=by
  rw[I];unfold shN cpN;simp only;split
  ·rw[aC _ _ (Ne.symm Ag),aC _ _ (Ne.symm qo),aD]
  ·rw[aC _ _ (Ne.symm qo),aD]
 have O:∀x,x≠b->x≠q->¬(x=kd es i/\cu f (kd es i)=1)->(shadowAt f (.ai b i) q).n x=f.n x:=fun x Z h2 h3=>by
  rw[I];unfold shN cpN;simp only;split
  ·rename_i pf
   rw[aC _ _ (fun e=>h3 ⟨e,pf⟩),aC _ _ Z,aC _ _ h2]
  ·rw[aC _ _ Z,aC _ _ h2]
 have E:∀{x:Nat} {d':Nd},f.n x=some d'->x≠q:=fun o e=>by rw[e,K]at o;cases o
 have X:=fun {x:Nat} {d':Nd} (o:f.n x=some d')=>p.fr w.ic w.tl g (nodes':=(shadowAt f (.ai b i) q).n) (fun x=>x=kd es i/\cu f (kd es i)=1) (fun x ⟨B,Q⟩=>⟨by rw[B];exact Q,by rw[B];exact s⟩) (fun x d o R G=>by rw[O x R (E o) G];exact o) o;have n:∀j,((es.set i ((es.getD i e0).1,(es.getD i e0).2.1,(q:Int))).getD j e0).1=ky es j/\((es.set i ((es.getD i e0).1,(es.getD i e0).2.1,(q:Int))).getD j e0).2.1=(es.getD j e0).2.1/\kd (es.set i ((es.getD i e0).1,(es.getD i e0).2.1,(q:Int))) j=if j=i then q else kd es j:=fun j=>by
  unfold kd;rw[bB _ _ _ _ _ r];by_cases e:j=i
  ·subst e;simp[ky,ch]
  ·simp[e,ky]
 have M:∀y∈b :: P,cu (shadowAt f (.ai b i) q) y=cu f y:=fun y v=>by
  obtain⟨dy,J⟩:=p.live w.ic w.tl y v;refine vD w.ic hL hg hd ng hc (fun e=>?_) (fun N=>?_) (E J)
  ·exact p.ax w.ic g s (e▸v)
  ·exact(p.az w.ic g s hd N).1 v
 have F:(shadowAt f (.ai b i) q).n b=some (2,es.set i ((es.getD i e0).1,(es.getD i e0).2.1,(q:Int))):=nb;have S:∀y∈P,(shadowAt f (.ai b i) q).n y=f.n y:=fun y v=>by
  obtain⟨dy,J⟩:=p.live w.ic w.tl y (List.mem_cons_of_mem _ v);refine O y (fun e=>?_) (E J) fun m=>?_
  ·obtain⟨te,hh⟩:=w.ic.ht
   have:=p.high hh y v;rw[e]at this;omega
  ·exact p.ax w.ic g s (m.1▸List.mem_cons_of_mem _ v)
 have p':aN (shadowAt f (.ai b i) q) t H P b (h+1) lo hi:=p.mono (by unfold aB;rw[eO]) M S;have l:(es.set i ((es.getD i e0).1,(es.getD i e0).2.1,(q:Int))).length=es.length:=by simp
 have V:∀j,nxt (es.set i ((es.getD i e0).1,(es.getD i e0).2.1,(q:Int))) j hi=nxt es j hi:=fun j=>by
  unfold nxt;rw[l];unfold ky;rw[(n (j+1)).1];rfl
 have vt:∀c∈kids d,∀L z r,Ok f.n L c z r->Ok (shadowAt f (.ai b i) q).n L c z r/\sz (shadowAt f (.ai b i) q).n c=sz f.n c:=fun c A L z r N=>by
  obtain⟨dc,jf⟩:=w.ic.af hd A;exact X jf (p.az w.ic g s hd A).1 (fun m=>Av (m.1▸A)) N
 refine⟨w.step p I1 (eO f b i q) g (fun x=>x=kd es i/\cu f (kd es i)=1) (fun x ⟨B,Q⟩=>⟨by rw[B];exact Q,by rw[B];exact s⟩) (fun x d o R G=>by rw[O x R (E o) G];exact o) ?_ ?_,p',?_,nb,nq,T,I4,I3,fun u=>p.rt (by unfold aB;rw[eO]) S (fun h0 M=>?_) u⟩
 ·refine⟨_,F,⟨?_,?_,?_,by rw[l];exact C.bx⟩,?_,?_,?_⟩
  ·intro a c yn A
   rw[l]at A;unfold ky;rw[(n a).1,(n c).1];exact C.a6 a c yn A
  ·intro j k;rw[l]at k;unfold ky;rw[(n j).1];exact C.lo j k
  ·intro j k;rw[l]at k;unfold ky;rw[(n j).1];exact C.hi j k
  ·intro e;exact e3 (List.length_eq_zero_iff.1 (by rw[<-l,e];rfl))
  ·intro j k;rw[l]at k;rw[(n j).2.1];exact e4 j k
  ·intro j k
   rw[l]at k;rw[V,(n j).2.2];unfold ky;rw[(n j).1];by_cases e:j=i
   ·subst e
    rw[if_pos rfl];refine⟨?_,Ok.copy hd nq (D j k).2 vt⟩;have:=(D j k).1;unfold sz at this |-;rw[nq];rw[hd]at this;exact this
   ·rw[if_neg e]
    obtain⟨dj,KP⟩:=w.ic.af g (aQ k);obtain⟨g1,g2⟩:=X KP (p.ax w.ic g (aQ k)) (fun m=>e (dZ (w.ic.only m.2 g s).2.1 r k m.1)) (D j k).2;exact⟨by rw[g2];exact(D j k).1,g1⟩
 ·intro Qv
  have:=(p.ok w.ok).2 Qv
  unfold sz at this |-;rw[F];rw[g]at this;simp only[l]at *;exact this
 ·have U:kd (es.set i ((es.getD i e0).1,(es.getD i e0).2.1,(q:Int))) i=q:=by rw[(n i).2.2,if_pos rfl]
  have:=aN.down p' F (i:=i) (by rw[l];exact r) (by rw[U];exact T)
  rw[U,V]at this;have sd:ky (es.set i ((es.getD i e0).1,(es.getD i e0).2.1,(q:Int))) i=ky es i:=(n i).1;rw[sd]at this;exact this
 ·rcases u with u | u
  ·omega
  ·rcases p.top with⟨_,m,_⟩ | ⟨m,_⟩
   ·unfold sz at u |-;rw[F];rw[<-m,g]at u;simp only[l]at *;exact u
   ·rw[M]at m;cases m
theorem Wk.ca(w:Wk f t H)(hd:f.n (aB f t)=some d)(G:2<=q)(K:q<f.c.length)(hc:cu f q=0):
  Wk (shadowAt f (.root t) q) t H/\aN (shadowAt f (.root t) q) t H [] q H none none/\aB (shadowAt f (.root t) q) t=q/\(shadowAt f (.root t) q).n q=some d/\(shadowAt f (.root t) q).m=f.m/\(shadowAt f (.root t) q).c.length=f.c.length/\(cI f t H->cI (shadowAt f (.root t) q) t H):=by
 obtain⟨A,B,C,D,E⟩:=w.ic.shadow (L:=.root t) w.tl rfl hd G K hc;have y:f.n q=none:=(w.ic.a8.dead q).2 hc;have N:aB f t≠q:=fun e=>by rw[e,y]at hd;cases hd
 have j:aB (shadowAt f (.root t) q) t=q:=by
  unfold aB;rw[dL];simp[gD,w.tl]
 have v:∀u,u≠t->aB (shadowAt f (.root t) q) u=aB f u:=fun u a=>by
  unfold aB;rw[dL];simp only[gD,List.getElem?_set,if_neg (Ne.symm a)]
 have s:(shadowAt f (.root t) q).n=if cu f (aB f t)=1 then upd (upd f.n q (some d)) (aB f t) none else upd f.n q (some d):=B;have nq:(shadowAt f (.root t) q).n q=some d:=by
  rw[s];split
  ·rw[aC _ _ (Ne.symm N),aD]
  ·rw[aD]
 let U:Nat->Prop:=fun x=>(∃d,f.n x=some d)/\(cu f (aB f t)=1->x≠aB f t)
 have J:∀x d,U x->f.n x=some d->∀c∈kids d,U c:=fun x d' _ k c i=>
  ⟨w.ic.af k i,fun b e=>(w.ic.a2 (aP w.tl) b).2 x d' k (by have:c=(f.r.getD t (0,0)).2.toNat:=e;rw[<-this];exact i)⟩
 have n:∀x,U x->(shadowAt f (.root t) q).n x=f.n x:=fun x ⟨⟨d',k⟩,b⟩=>by
  have p:x≠q:=fun e=>by rw[e,y]at k;cases k
  rw[s];split
  ·rename_i M;rw[aC _ _ (b M),aC _ _ p]
  ·rw[aC _ _ p]
 have z:=Ok.frame J n;refine⟨⟨A,by rw[dL];simpa using w.tl,?_,fun u a m=>?_⟩,?_,j,nq,D,C,fun l=>l.imp id fun l=>by rw[j];unfold sz at l |-;rw[nq];rw[hd]at l;exact l⟩
 ·rw[j]
  refine Ok.copy hd nq w.ok fun c i P I O F=>?_;have o:U c:=⟨w.ic.af hd i,fun _ e=>w.ic.ag hd (e▸i)⟩;exact⟨z _ _ _ _ o F,by unfold sz;rw[n c o]⟩
 ·rw[dL]at a
  have a:u<f.r.length:=by simpa using a
  obtain⟨h,b,g⟩:=w.eb u a m;have r:U (aB f u):=⟨w.ic.ao (aP a),fun b=>nB w.ic w.tl a m b⟩;refine⟨h,by rw[v u m];exact z _ _ _ _ r b,?_⟩;rcases g with g | g
  ·exact .inl g
  ·refine .inr ?_
   unfold sz at g |-;rw[v u m,n _ r];exact g
 ·have:=aN.here (f:=shadowAt f (.root t) q) (t:=t) (H:=H) (by rw[j];exact E)
  rw[j]at this;exact this
theorem aEC(a:i<=es.length)(e:E3)(j:Nat):ky (insE es i e) j=if j<i then ky es j else if j=i then e.1 else ky es (j-1):=by
 unfold ky;rw[jR _ _ _ _ a];split
 ·rfl
 ·split<;>rfl
theorem aLU(a:i<=es.length)(e:E3)(j:Nat):kd (insE es i e) j=if j<i then kd es j else if j=i then ch e else kd es (j-1):=by
 unfold kd;rw[jR _ _ _ _ a];split
 ·rfl
 ·split<;>rfl
theorem eM(h:j<m):ky (es.take m) j=ky es j:=by unfold ky;rw[fV _ _ _ h]
theorem aEA(h:j<m):kd (es.take m) j=kd es j:=by unfold kd;rw[fV _ _ _ h]
theorem gK:ky (es.drop m) j=ky es (m+j):=by unfold ky;rw[fA]
theorem aDZ:kd (es.drop m) j=kd es (m+j):=by unfold kd;rw[fA]
theorem len_take'(h:m<=es.length):(es.take m).length=m:=by rw[List.length_take];omega
theorem cQ(a:OB)(h:i+1<es.length):nxt es i a=some (ky es (i+1)):=by unfold nxt;rw[if_pos h]
theorem eR(a:OB)(h:¬i+1<es.length):nxt es i a=a:=by unfold nxt;rw[if_neg h]
theorem sK{b:ByteArray}(h:kl a b=true)(c:hiR hi b):hiR hi a:=by
 cases hi with
 | none=>trivial
 | some u=>exact kO h c
theorem aJG{b:ByteArray}(h:kl a b=true)(c:loR lo a):loR lo b:=by
 cases lo with
 | none=>trivial
 | some l=>exact gQ c (fJ h)
theorem tY(h:Srt es)(m:Nat)(b:m<=es.length):Srt (es.take m):=fun i j c a=>by
 rw[len_take' b]at a;rw[eM (by omega),eM a];exact h i j c (by omega)
theorem aAQ(h:Srt es)(m:Nat):Srt (es.drop m):=fun i j b a=>by
 rw[List.length_drop]at a;rw[gK,gK];exact h _ _ (by omega) (by omega)
theorem eE.strict{l:ByteArray}(h:eE es (some l) hi)(a:0<m)(b:m<es.length):kl l (ky es m)=true:=
 lF (h.lo 0 (by omega)) (h.a6 0 m a b)
theorem Ok.ct(hd:nodes b=some (k,es))(n:Ok nodes h b lo hi)(u:0<m)(f:m<es.length)(o:nodes' q=some (k,es.take m))
  (t:∀c∈kids (k,es),∀h' lo' ap,Ok nodes h' c lo' ap->Ok nodes' h' c lo' ap/\sz nodes' c=sz nodes c):Ok nodes' h q lo (some (ky es m)):=by
 have p:∀{es:List E3},m<es.length->eE es lo hi->eE (es.take m) lo (some (ky es m)):=fun {es} f e=>by
  refine⟨tY e.a6 m (by omega),fun j a=>?_,fun j a=>?_,?_⟩
  ·rw[len_take' (by omega)]at a;rw[eM a];exact e.lo j (by omega)
  ·rw[len_take' (by omega)]at a;rw[eM a];exact e.a6 j m a f
  ·rw[len_take' (by omega)];have:=e.bx;omega
 cases h with
 | zero=>
  obtain⟨es',d,g,i⟩:=n;rw[hd]at d;cases d;refine⟨_,o,p f g,fun j a=>?_⟩;rw[len_take' (by omega)]at a;rw[fV _ _ _ a];exact i j (by omega)
 | succ h=>
  obtain⟨es',d,g,i,r,l⟩:=n;rw[hd]at d;cases d;refine⟨_,o,p f g,pB f u,fun j a=>?_,fun j a=>?_⟩
  ·rw[len_take' (by omega)]at a
   rw[fV _ _ _ a];exact r j (by omega)
  ·rw[len_take' (by omega)]at a
   obtain⟨g1,s⟩:=t _ (aQ (show j<es.length by omega)) _ _ _ (l j (by omega)).2;rw[aEA a,eM a];refine⟨by rw[s];exact(l j (by omega)).1,?_⟩;have:nxt (es.take m) j (some (ky es m))=nxt es j hi:=by
    rw[cQ (es:=es) hi (by omega)];by_cases e:j+1<m
    ·rw[cQ _ (by rw[len_take' (by omega)];exact e),eM e]
    ·rw[eR _ (by rw[len_take' (by omega)];exact e),show j+1=m from by omega]
   rw[this];exact g1
theorem Ok.cg(hd:nodes b=some (k,es))(n:Ok nodes h b lo hi)(f:m<es.length)(o:nodes' q=some (k,es.drop m))
  (t:∀c∈kids (k,es),∀h' lo' ap,Ok nodes h' c lo' ap->Ok nodes' h' c lo' ap/\sz nodes' c=sz nodes c):Ok nodes' h q (some (ky es m)) hi:=by
 have p:∀{es:List E3},m<es.length->eE es lo hi->eE (es.drop m) (some (ky es m)) hi:=fun {es} f e=>by
  refine⟨aAQ e.a6 m,fun j a=>?_,fun j a=>?_,?_⟩
  ·rw[List.length_drop]at a;rw[gK]
   by_cases e0:j=0
   ·subst e0;exact eI _
   ·exact fJ (e.a6 m (m+j) (by omega) (by omega))
  ·rw[List.length_drop]at a;rw[gK];exact e.hi _ (by omega)
  ·rw[List.length_drop];have:=e.bx;omega
 cases h with
 | zero=>
  obtain⟨es',d,g,i⟩:=n;rw[hd]at d;cases d;refine⟨_,o,p f g,fun j a=>?_⟩;rw[List.length_drop]at a;rw[fA];exact i _ (by omega)
 | succ h=>
  obtain⟨es',d,g,i,r,l⟩:=n;rw[hd]at d;cases d;refine⟨_,o,p f g,nS f,fun j a=>?_,fun j a=>?_⟩
  ·rw[List.length_drop]at a
   rw[fA];exact r _ (by omega)
  ·rw[List.length_drop]at a
   obtain⟨g1,s⟩:=t _ (aQ (show m+j<es.length by omega)) _ _ _ (l (m+j) (by omega)).2;rw[aDZ,gK];refine⟨by rw[s];exact(l _ (by omega)).1,?_⟩;have:nxt (es.drop m) j hi=nxt es (m+j) hi:=by
    unfold nxt;rw[List.length_drop,gK];by_cases e:m+j+1<es.length
    ·rw[if_pos (by omega),if_pos e,show m+(j+1)=m+j+1 from by omega]
    ·rw[if_neg (by omega),if_neg e]
   rw[this];exact g1
theorem Wk.split(w:Wk f t H)(p:aN f t H P b (h+1) lo hi)(o:f.n b=some (2,es))(h5:es.length<5)(r:i<es.length){ces:List E3}(hd:f.n (kd es i)=some (k,ces))(h1:cu f (kd es i)=1)
  {m q:Nat} (hm:2<=m) (iN:m+2<=ces.length) (iw:2<=q) (ng:q<f.c.length) (hc:cu f q=0):
  let f':=splitF f b es i (kd es i) k ces m q (ky ces m)
  Wk f' t H/\aN f' t H P b (h+1) lo hi/\aN f' t H (b :: P) (kd es i) h (some (ky es i)) (some (ky ces m))/\aN f' t H (b :: P) q h (some (ky ces m)) (nxt es i hi)/\
   f'.n b=some (2,insE es (i+1) (ky ces m,.empty,(q:Int)))/\f'.n (kd es i)=some (k,ces.take m)/\f'.n q=some (k,ces.drop m)/\(cI f t H->cI f' t H):=by
 intro f';obtain⟨I1,R⟩:=w.ic.split (key:=ky ces m) (m:=m) o r (rfl:kd es i=_) hd (by omega) (by omega) iw ng hc;have U:f.n q=none:=(w.ic.a8.dead q).2 hc;have L:=aQ r;have sa:kd es i≠b:=fun e=>w.ic.ag o (by rw[<-e];exact L);have Ag:kd es i≠q:=fun e=>by rw[e,U]at hd;cases hd
 have qo:b≠q:=fun e=>by rw[e,U]at o;cases o
 have Av:=w.ic.ag hd;obtain⟨es',e1,s,e3,e4,K⟩:=(p.ok w.ok).1;rw[o]at e1;cases e1;have I:f'.n b=some (2,insE es (i+1) (ky ces m,.empty,(q:Int))):=by rw[R,aD]
 have nq:f'.n q=some (k,ces.drop m):=by rw[R,aC _ _ (Ne.symm qo),aD]
 have Z:f'.n (kd es i)=some (k,ces.take m):=by rw[R,aC _ _ sa,aC _ _ Ag,aD]
 have nx:∀x,x≠b->x≠q->x≠kd es i->f'.n x=f.n x:=fun x h1 h2 h3=>by rw[R,aC _ _ h1,aC _ _ h2,aC _ _ h3]
 have W:∀{x:Nat} {d':Nd},f.n x=some d'->x≠q:=fun C e=>by rw[e,U]at C;cases C
 have Hp:∀x,x=kd es i->cu f x=1/\x∈kids (2,es):=fun x q1=>by rw[q1];exact⟨h1,L⟩
 have Hv:∀x d,f.n x=some d->x≠b->¬x=kd es i->f'.n x=some d:=fun x d C wd BC=>by rw[nx x wd (W C) BC];exact C
 have fr:=fun {x:Nat} {d':Nd} (C:f.n x=some d')=>p.fr w.ic w.tl o (nodes':=f'.n) (fun x=>x=kd es i) Hp Hv C;have S:∀x,cu f' x=if q=x then 1 else cu f x:=fun x=>dV (f:=setN f (kd es i) (k,ces.take m)) (k,ces.drop m) ng x;have Y:∀y∈b :: P,cu f' y=cu f y:=fun y M=>by
  obtain⟨dy,T⟩:=p.live w.ic w.tl y M;rw[S,if_neg (Ne.symm (W T))]
 have vt:∀c∈kids (k,ces),∀X D r,Ok f.n X c D r->Ok f'.n X c D r/\sz f'.n c=sz f.n c:=fun c J X D r hk=>by
  obtain⟨dc,jf⟩:=w.ic.af hd J;exact fr jf (p.az w.ic o L hd J).1 (fun z=>Av (z▸J)) hk
 have Cj:∀y∈P,f'.n y=f.n y:=fun y M=>by
  obtain⟨dy,T⟩:=p.live w.ic w.tl y (List.mem_cons_of_mem _ M);refine nx y (fun e=>?_) (W T) fun z=>?_
  ·obtain⟨te,hh⟩:=w.ic.ht
   have:=p.high hh y M;rw[e]at this;omega
  ·exact p.ax w.ic o L (z▸List.mem_cons_of_mem _ M)
 have p':aN f' t H P b (h+1) lo hi:=p.mono rfl Y Cj;have H4:eE ces (some (ky es i)) (nxt es i hi):=by
  have:=(K i r).2
  cases h with
  | zero=>obtain⟨_,g,l,_⟩:=this;rw[hd]at g;cases g;exact l
  | succ h=>obtain⟨_,g,l,_⟩:=this;rw[hd]at g;cases g;exact l
 have V:kl (ky es i) (ky ces m)=true:=H4.strict (by omega) (by omega);have Q:hiR (nxt es i hi) (ky ces m):=H4.hi m (by omega);have E1:i+1<es.length->kl (ky ces m) (ky es (i+1))=true:=fun ak=>by rw[cQ _ ak]at Q;exact Q
 have okc:Ok f'.n h (kd es i) (some (ky es i)) (some (ky ces m)):=Ok.ct hd (K i r).2 (by omega) (by omega) Z vt;have okq:Ok f'.n h q (some (ky ces m)) (nxt es i hi):=Ok.cg hd (K i r).2 (by omega) nq vt;have v:=aEC (es:=es) (i:=i+1) (by omega) (ky ces m,.empty,(q:Int));have G:=aLU (es:=es) (i:=i+1) (by omega) (ky ces m,.empty,(q:Int));have RY:ch (ky ces m,.empty,(q:Int))=q:=by simp[ch]
 rw[RY]at G;have n:=iV es (i+1) (ky ces m,.empty,(q:Int));have nxs:∀j,j<i->nxt (insE es (i+1) (ky ces m,.empty,(q:Int))) j hi=nxt es j hi:=fun j A=>by
  rw[cQ _ (by rw[n];omega),cQ _ (by omega),v,if_pos (by omega)]
 have N:nxt (insE es (i+1) (ky ces m,.empty,(q:Int))) i hi=some (ky ces m):=by
  rw[cQ _ (by rw[n];omega),v,if_neg (by omega),if_pos rfl]
 have E:∀j,i<j->nxt (insE es (i+1) (ky ces m,.empty,(q:Int))) j hi=nxt es (j-1) hi:=fun j A=>by
  by_cases e:j<es.length
  ·rw[cQ _ (by rw[n];omega),cQ _ (by omega),v,if_neg (by omega),if_neg (by omega),show j+1-1=j-1+1 from by omega]
  ·rw[eR _ (by rw[n];omega),eR _ (by omega)]
 have Ym:sz f'.n (kd es i)=m:=by unfold sz;rw[Z];exact len_take' (by omega)
 have S4:sz f'.n q=ces.length-m:=by unfold sz;rw[nq];exact List.length_drop
 refine⟨w.step p I1 rfl o (fun x=>x=kd es i) Hp Hv ?_ ?_,p',?_,?_,I,Z,nq,fun F=>p.rt rfl Cj (fun h0 Y=>?_) F⟩
 ·refine⟨_,I,⟨?_,?_,?_,by rw[n];omega⟩,by intro e;rw[e]at n;simp at n,?_,?_⟩
  ·intro a c yn J
   rw[n]at J;rw[v,v];by_cases g:a<i+1
   ·rw[if_pos g]
    by_cases c1:c<i+1
    ·rw[if_pos c1];exact s.a6 a c yn (by omega)
    ·rw[if_neg c1]
     have XO:kl (ky es a) (ky ces m)=true:=by
      by_cases e:a=i
      ·rw[e];exact V
      ·exact kO (s.a6 a i (by omega) r) V
     by_cases c2:c=i+1
     ·rw[if_pos c2];exact XO
     ·rw[if_neg c2];exact s.a6 a (c-1) (by omega) (by omega)
   ·rw[if_neg g,if_neg (show ¬c<i+1 by omega),if_neg (show ¬c=i+1 by omega)]
    by_cases l:a=i+1
    ·rw[if_pos l]
     have:=E1 (by omega)
     by_cases e:c-1=i+1
     ·rw[e];exact this
     ·exact kO this (s.a6 (i+1) (c-1) (by omega) (by omega))
    ·rw[if_neg l];exact s.a6 (a-1) (c-1) (by omega) (by omega)
  ·intro j A
   rw[n]at A;rw[v];by_cases g:j<i+1
   ·rw[if_pos g];exact s.lo j (by omega)
   ·rw[if_neg g]
    by_cases l:j=i+1
    ·rw[if_pos l];exact aJG V (s.lo i r)
    ·rw[if_neg l];exact s.lo _ (by omega)
  ·intro j A
   rw[n]at A;rw[v];by_cases g:j<i+1
   ·rw[if_pos g];exact s.hi j (by omega)
   ·rw[if_neg g]
    by_cases l:j=i+1
    ·rw[if_pos l]
     by_cases e:i+1<es.length
     ·exact sK (E1 e) (s.hi _ e)
     ·rw[eR _ e]at Q;exact Q
    ·rw[if_neg l];exact s.hi _ (by omega)
  ·intro j A
   rw[n]at A;rw[jR _ _ _ _ (by omega)];split
   ·exact e4 j (by omega)
   ·split
    ·rfl
    ·exact e4 _ (by omega)
  ·intro j A
   rw[n]at A;have u:∀B,B<es.length->B≠i->2<=sz f'.n (kd es B)/\Ok f'.n h (kd es B) (some (ky es B)) (nxt es B hi):=fun B O aw=>by
    obtain⟨dj,KP⟩:=w.ic.af o (aQ O);obtain⟨g1,g2⟩:=fr KP (p.ax w.ic o (aQ O)) (fun z=>aw (dZ (w.ic.only h1 o L).2.1 r O z)) (K B O).2;exact⟨by rw[g2];exact(K B O).1,g1⟩
   rw[G,v];by_cases g:j<i+1
   ·rw[if_pos g,if_pos g]
    by_cases e:j=i
    ·subst e;rw[N];exact⟨by rw[Ym];exact hm,okc⟩
    ·rw[nxs j (by omega)];exact u j (by omega) e
   ·rw[if_neg g,if_neg g]
    by_cases l:j=i+1
    ·rw[if_pos l,if_pos l,l,E (i+1) (by omega)]
     exact⟨by rw[S4];omega,okq⟩
    ·rw[if_neg l,if_neg l,E j (by omega)];exact u _ (by omega) (by omega)
 ·intro Qv
  unfold sz;rw[I];simp only[n];have:=(p.ok w.ok).2 Qv;unfold sz at this;rw[o]at this;simp only at this;omega
 ·have:=aN.down p' I (i:=i) (by rw[n];omega) (by rw[G,if_pos (by omega),S,if_neg (Ne.symm Ag)];exact h1)
  rw[G,if_pos (by omega),v,if_pos (by omega),N]at this;exact this
 ·have:=aN.down p' I (i:=i+1) (by rw[n];omega) (by rw[G,if_neg (by omega),if_pos rfl,S,if_pos rfl])
  rw[G,if_neg (by omega),if_pos rfl,v,if_neg (by omega),if_pos rfl,E _ (by omega)]at this;exact this
 ·rcases F with F | F
  ·omega
  ·rcases p.top with⟨_,z,_⟩ | ⟨z,_⟩
   ·unfold sz at F |-;rw[I];rw[<-z,o]at F;simp only[n]at *;omega
   ·rw[Y]at z;cases z
