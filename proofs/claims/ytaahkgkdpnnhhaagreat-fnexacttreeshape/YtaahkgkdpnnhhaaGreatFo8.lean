import Derived.Laws.Strings
import Derived.Test.YtaahkgkdpnnhhaaGreatFo1
set_option linter.all false
namespace Go.Proofs.YtaahkgkdpnnhhaaGreat.Fo
def kl(a b:ByteArray):Bool:=Op.bytesLess a.toList b.toList
theorem oR:∀l:List UInt8,Op.bytesLess l l=false
 | []=>rfl
 | a :: l=>by simp[Op.bytesLess,oR l,UInt8.lt_irrefl]
theorem aKJ:∀l m k:List UInt8,Op.bytesLess l m=true→Op.bytesLess m k=true→Op.bytesLess l k=true
 | [],[],_,h,_=>by simp[Op.bytesLess]at h
 | [],b :: m,[],_,h=>by simp[Op.bytesLess]at h
 | [],b :: m,c :: k,_,_=>rfl
 | a :: l,[],_,h,_=>by simp[Op.bytesLess]at h
 | a :: l,b :: m,[],_,h=>by simp[Op.bytesLess]at h
 | a :: l,b :: m,c :: k,h,h'=>by
  simp only[Op.bytesLess,Bool.or_eq_true,decide_eq_true_eq,Bool.and_eq_true,beq_iff_eq]at h h' ⊢;rcases h with h | ⟨rfl,h⟩
  ·rcases h' with h' | ⟨rfl,h'⟩
   ·exact .inl (UInt8.lt_trans h h')
   ·exact .inl h
  ·rcases h' with h' | ⟨rfl,h'⟩
   ·exact .inl h'
   ·exact .inr ⟨rfl,aKJ l m k h h'⟩
theorem aFS:∀l m:List UInt8,Op.bytesLess l m=false→l=m∨Op.bytesLess m l=true
 | [],[],_=>.inl rfl
 | [],b :: m,h=>by simp[Op.bytesLess]at h
 | a :: l,[],_=>.inr rfl
 | a :: l,b :: m,h=>by
  simp only[Op.bytesLess,Bool.or_eq_false_iff,decide_eq_false_iff_not,Bool.and_eq_false_iff,beq_eq_false_iff_ne]at h;obtain⟨h1,h2⟩:=h;by_cases e:a=b
  ·subst e
   rcases aFS l m (h2.resolve_left (fun q=>q rfl))with q | q
   ·exact .inl (by rw[q])
   ·exact .inr (by simp[Op.bytesLess,q])
  ·refine .inr ?_
   have:=UInt8.lt_of_le_of_ne (UInt8.not_lt.1 h1) (Ne.symm e)
   simp[Op.bytesLess,this]
theorem gR{a b:ByteArray}(h:a.toList=b.toList):a=b:=by
 rw[ByteArray.toList_eq,ByteArray.toList_eq]at h;cases a;cases b;congr;exact Array.toList_inj.1 h
theorem eD(a:ByteArray):kl a a=false:=oR _
theorem kH{a b c:ByteArray}(h:kl a b=true)(h':kl b c=true):kl a c=true:=aKJ _ _ _ h h'
theorem kW{a b:ByteArray}(h:kl a b=false):a=b∨kl b a=true:=by
 rcases aFS _ _ h with q | q
 ·exact .inl (gR q)
 ·exact .inr q
theorem fE{a b:ByteArray}(h:kl a b=true):kl b a=false:=by
 cases e:kl b a with
 | false=>rfl
 | true=>have:=kH h e;rw[eD]at this;cases this
theorem kU{a b c:ByteArray}(h:kl b a=false)(h':kl b c=true):kl a c=true:=by
 rcases kW h with rfl | q
 ·exact h'
 ·exact kH q h'
theorem kV{a b c:ByteArray}(h:kl a b=true)(h':kl c b=false):kl a c=true:=by
 rcases kW h' with rfl | q
 ·exact h
 ·exact kH h q
theorem gL{a b c:ByteArray}(h:kl b a=false)(h':kl c b=false):kl c a=false:=by
 cases e:kl c a with
 | false=>rfl
 | true=>have:=kV e h;rw[h']at this;cases this
def loR(lo:OB)(k:ByteArray):Prop:=match lo with
 | none=>True
 | some l=>kl k l=false
def hiR(hi:OB)(k:ByteArray):Prop:=match hi with
 | none=>True
 | some u=>kl k u=true
def ky(es:List E3)(i:Nat):ByteArray:=(es.getD i e0).1
def kd(es:List E3)(i:Nat):Nat:=ch (es.getD i e0)
def Srt(es:List E3):Prop:=∀i j,i<j→j<es.length→kl (ky es i) (ky es j)=true
def nxt(es:List E3)(i:Nat)(hi:OB):OB:=if i+1<es.length then some (ky es (i+1))else hi
structure eB(es:List E3)(lo hi:OB):Prop where
 srt:Srt es
 lo:∀i,i<es.length→loR lo (ky es i)
 hi:∀i,i<es.length→hiR hi (ky es i)
 le5:es.length≤5
def sz(nodes:Nat→Option Nd)(b:Nat):Nat:=match nodes b with
 | some d=>d.2.length
 | none=>0
def Ok(nodes:Nat→Option Nd):Nat→Nat→OB→OB→Prop
 | 0,b,lo,hi=>∃es,nodes b=some (1,es)∧eB es lo hi∧∀i,i<es.length→(es.getD i e0).2.2=0
 | h+1,b,lo,hi=>∃es,nodes b=some (2,es)∧eB es lo hi∧es≠[]∧(∀i,i<es.length→(es.getD i e0).2.1=ByteArray.empty)∧
   ∀i,i<es.length→2≤sz nodes (kd es i)∧Ok nodes h (kd es i) (some (ky es i)) (nxt es i hi)
theorem aP{es:List E3}{i:Nat}(hi:i<es.length):kd es i∈kids (2,es):=gM hi
theorem Ok.frame{nodes nodes':Nat→Option Nd}{U:Nat→Prop}(hU:∀x d,U x→nodes x=some d→∀c∈kids d,U c)(he:∀x,U x→nodes' x=nodes x):
  ∀h b lo hi,U b→Ok nodes h b lo hi→Ok nodes' h b lo hi
 | 0,b,lo,hi,hb,h=>by
  obtain⟨es,h1,h2⟩:=h;exact⟨es,(he b hb).trans h1,h2⟩
 | h+1,b,lo,hi,hb,hk=>by
  obtain⟨es,h1,h2,h3,h4,h5⟩:=hk;refine⟨es,(he b hb).trans h1,h2,h3,h4,fun i am=>?_⟩;have hu:U (kd es i):=hU b _ hb h1 _ (aP am);refine⟨?_,Ok.frame hU he h _ _ _ hu (h5 i am).2⟩;unfold sz;rw[he _ hu];exact(h5 i am).1
theorem Ok.sz_pos{nodes:Nat→Option Nd}{h b:Nat}{lo hi:OB}(k:Ok nodes h b lo hi):∃d,nodes b=some d∧(d.1=1∨d.1=2)∧d.2.length≤5∧Srt d.2∧(h=0↔d.1=1):=by
 cases h with
 | zero=>obtain⟨es,h1,h2,_⟩:=k;exact⟨_,h1,.inl rfl,h2.le5,h2.srt,by simp⟩
 | succ h=>obtain⟨es,h1,h2,_⟩:=k;exact⟨_,h1,.inr rfl,h2.le5,h2.srt,by simp⟩
theorem Ok.wide{nodes:Nat→Option Nd}:∀{h b:Nat} {lo hi lo' am:OB},(∀k,loR lo k→loR lo' k)→(∀k,hiR hi k→hiR am k)→Ok nodes h b lo hi→Ok nodes h b lo' am
 | 0,b,lo,hi,lo',am,hl,hh,k=>by
  obtain⟨es,h1,h2,h3⟩:=k;exact⟨es,h1,⟨h2.srt,fun i q=>hl _ (h2.lo i q),fun i q=>hh _ (h2.hi i q),h2.le5⟩,h3⟩
 | h+1,b,lo,hi,lo',am,hl,hh,k=>by
  obtain⟨es,h1,h2,h3,h4,h5⟩:=k;refine⟨es,h1,⟨h2.srt,fun i q=>hl _ (h2.lo i q),fun i q=>hh _ (h2.hi i q),h2.le5⟩,h3,h4,fun i am=>⟨(h5 i am).1,?_⟩⟩;refine Ok.wide (fun _ q=>q) ?_ (h5 i am).2;unfold nxt;split
  ·exact fun _ q=>q
  ·exact hh
def aB(f:fZ)(t:Nat):Nat:=(f.roots.getD t (0,0)).2.toNat
theorem aO{f:fZ}{t:Nat}(h:t<f.roots.length):f.roots.getD t (0,0)∈f.roots:=by
 rw[gD,gE h];exact List.getElem_mem h
def aN(f:fZ)(t H:Nat):List Nat→Nat→Nat→OB→OB→Prop
 | [],b,h,lo,hi=>cu f (aB f t)=1∧b=aB f t∧h=H∧lo=none∧hi=none
 | q :: P,c,h,lo,hi=>∃lo0 Gw es i,aN f t H P q (h+1) lo0 Gw∧f.nodes q=some (2,es)∧i<es.length∧cu f (kd es i)=1∧c=kd es i∧lo=some (ky es i)∧hi=nxt es i Gw
theorem aN.here{f:fZ}{t H:Nat}(h:cu f (aB f t)=1):aN f t H [] (aB f t) H none none:=⟨h,rfl,rfl,rfl,rfl⟩
theorem aN.down{f:fZ}{t H:Nat}{P:List Nat}{b h:Nat}{lo hi:OB}{es:List E3}{i:Nat}(p:aN f t H P b (h+1) lo hi)(hn:f.nodes b=some (2,es))(am:i<es.length)(hc:cu f (kd es i)=1):aN f t H (b :: P) (kd es i) h (some (ky es i)) (nxt es i hi):=⟨lo,hi,es,i,p,hn,am,hc,rfl,rfl,rfl⟩
theorem aN.ind{f:fZ}{t H:Nat}{motive:∀(P:List Nat) (b h:Nat) (lo hi:OB),aN f t H P b h lo hi→Prop}(here:∀h:cu f (aB f t)=1,motive [] (aB f t) H none none (aN.here h))
  (down:∀{P:List Nat} {b h:Nat} {lo hi:OB} {es:List E3} {i:Nat} (p:aN f t H P b (h+1) lo hi) (hn:f.nodes b=some (2,es)) (am:i<es.length) (hc:cu f (kd es i)=1),motive P b (h+1) lo hi p→motive (b :: P) (kd es i) h (some (ky es i)) (nxt es i hi) (aN.down p hn am hc)):
  ∀{P:List Nat} {b h:Nat} {lo hi:OB} (p:aN f t H P b h lo hi),motive P b h lo hi p:=by
 intro P;induction P with
 | nil=>
  intro b h lo hi p;obtain⟨h1,rfl,rfl,rfl,rfl⟩:=p;exact here h1
 | cons q P ih=>
  intro b h lo hi p;obtain⟨lo0,Gw,es,i,p,h1,h2,h3,rfl,rfl,rfl⟩:=p;exact down p h1 h2 h3 (ih p)
section
variable {f : fZ} {t H : Nat}
theorem aN.named(h:IC f)(ht:t<f.roots.length){P:List Nat}{b hb:Nat}{lo hi:OB}(p:aN f t H P b hb lo hi):
  ∀y∈b :: P,cu f y=1∧(∀x d,f.nodes x=some d→y∈kids d→x∈P)∧(y=aB f t∨rc f.roots y=0):=by
 induction p using aN.ind with
 | here h1=>
  intro y hy;simp only[List.mem_cons,List.not_mem_nil,or_false]at hy;subst hy;exact⟨h1,fun x d hx hk=>absurd hk ((h.onlyRoot (aO ht) h1).2 x d hx),.inl rfl⟩
 | @down P b hh lo hi es i p hn am h1 ih=>
  intro y hy;rcases List.mem_cons.1 hy with rfl | hy
  ·have ho:=h.only h1 hn (aP am)
   exact⟨h1,fun x d hx hk=>by rw[ho.2.2 x d hx hk];exact List.mem_cons_self,.inr ho.1⟩
  ·obtain⟨a1,a2,a3⟩:=ih y hy
   exact⟨a1,fun x d hx hk=>List.mem_cons_of_mem _ (a2 x d hx hk),a3⟩
theorem aN.high{ur:Nat→Nat}(hh:Hts f.nodes ur){P:List Nat}{b hb:Nat}{lo hi:OB}(p:aN f t H P b hb lo hi):∀y∈P,ur b<ur y:=by
 induction p using aN.ind with
 | here h1=>intro y hy;simp at hy
 | @down P b Kn lo hi es i p hn am h1 ih=>
  intro y hy;have hk:=eL (hh b _ hn) (aP am);rcases List.mem_cons.1 hy with rfl | hy
  ·omega
  ·have:=ih y hy;omega
theorem aN.ok{P:List Nat}{b hb:Nat}{lo hi:OB}(p:aN f t H P b hb lo hi)(ho:Ok f.nodes H (aB f t) none none):Ok f.nodes hb b lo hi∧(P≠[]→2≤sz f.nodes b):=by
 induction p using aN.ind with
 | here h1=>exact⟨ho,fun q=>absurd rfl q⟩
 | @down P b Kn lo hi es i p hn am h1 ih=>
  obtain⟨es',e1,_,_,_,e5⟩:=ih.1;rw[hn]at e1;cases e1;exact⟨(e5 i am).2,fun _=>(e5 i am).1⟩
theorem aN.live(h:IC f)(ht:t<f.roots.length){P:List Nat}{b hb:Nat}{lo hi:OB}(p:aN f t H P b hb lo hi):∀y∈b :: P,∃d,f.nodes y=some d:=fun y hy=>
 h.live (by rw[(p.named h ht y hy).1];omega)
theorem dY{es:List E3}{i j:Nat}(h1:(kids (2,es)).count (kd es i)=1)(hi:i<es.length)(hj:j<es.length)(e:kd es j=kd es i):j=i:=by
 rw[gK]at h1;have a1:(es.map ch).getD i 0=kd es i:=gJ _ _ hi;have a2:(es.map ch).getD j 0=kd es i:=(gJ _ _ hj).trans e;generalize kd es i=x at *;have hi:i <(es.map ch).length:=by simpa using hi
 have hj:j <(es.map ch).length:=by simpa using hj
 generalize es.map ch=l at *;by_cases av:j=i
 ·exact av
 ·exfalso
  have:=fP l i x hi
  rw[a1,cA,h1]at this;have h0:(delE l i).count x=0:=by omega
  refine List.count_eq_zero.1 h0 ?_;rw[gD,gE hj]at a2;simp only[Option.getD_some]at a2;rw[←a2];unfold delE;by_cases ai:j<i
  ·exact List.mem_append_left _ (List.mem_take_iff_getElem.2 ⟨j,by omega,rfl⟩)
  ·refine List.mem_append_right _ (List.mem_drop_iff_getElem.2 ⟨j -(i+1),by omega,?_⟩)
   congr 1;omega
theorem aN.upd(h:IC f)(ht:t<f.roots.length){P:List Nat}{b hb:Nat}{lo hi:OB}(p:aN f t H P b hb lo hi)(ho:Ok f.nodes H (aB f t) none none){es:List E3}{k:Int}(af:f.nodes b=some (k,es))
  {nodes':Nat→Option Nd} (C:Nat→Prop) (hC:∀x,C x→cu f x=1∧x∈kids (k,es)) (hN:∀x d,f.nodes x=some d→x≠b→¬C x→nodes' x=some d)
  (kg:Ok nodes' hb b lo hi) (bd:P≠[]→2≤sz nodes' b):
  Ok nodes' H (aB f t) none none∧(∀u,u<f.roots.length→u≠t→nodes' (aB f u)=f.nodes (aB f u)∧∀hu,Ok f.nodes hu (aB f u) none none→Ok nodes' hu (aB f u) none none):=by
 obtain⟨ur,hh⟩:=h.ht;have J8:=p.named h ht;have y7:=p.high hh;let U:Nat→Prop:=fun x=>(∃d,f.nodes x=some d)∧x∉b :: P∧¬C x;have lj:∀x d,U x→f.nodes x=some d→∀c∈kids d,U c:=fun x d ⟨_,pr,Hm⟩ hx c hc=>by
  refine⟨h.kid_live hx hc,fun hm=>?_,fun jh=>?_⟩
  ·exact pr (List.mem_cons_of_mem _ ((J8 c hm).2.1 x d hx hc))
  ·have:=(h.only (hC c jh).1 af (hC c jh).2).2.2 x d hx hc
   exact pr (this▸List.mem_cons_self)
 have gd:∀x,U x→nodes' x=f.nodes x:=fun x ⟨⟨d,hd⟩,pr,Hm⟩=>by
  rw[hd];exact hN x d hd (fun e=>pr (e▸List.mem_cons_self)) Hm
 have fr:=Ok.frame lj gd;have CJ:∀x∈P,nodes' x=f.nodes x:=fun x hx=>by
  obtain⟨d,hd⟩:=p.live h ht x (List.mem_cons_of_mem _ hx);rw[hd];refine hN x d hd (fun e=>by have:=y7 x hx;rw[e]at this;omega) fun hc=>?_;have h1:=eL (ht:=ur) (v:=ur b) (es:=es) (c:=x) (by
   have:=(cP (hC x hc).2).1;subst this;exact hh b _ af) (by
   have:=(cP (hC x hc).2).1;subst this;exact(hC x hc).2)
  have:=y7 x hx;omega
 have TF:∀x∈P,∀d,f.nodes x=some d→∀c∈kids d,U c∨c∈b :: P:=fun x hx d hd c hc=>by
  by_cases hm:c∈b :: P
  ·exact .inr hm
  ·refine .inl ⟨h.kid_live hd hc,hm,fun jh=>?_⟩
   have:=(h.only (hC c jh).1 af (hC c jh).2).2.2 x d hd hc
   have a:=y7 x hx;rw[this]at a;omega
 refine⟨?_,fun u hu yj=>?_⟩
 ·clear J8 af hC hN
  clear_value U
  induction p using aN.ind with
  | here h1=>exact kg
  | @down P b Kn lo hi es i p hn am h1 ih=>
   have TZ:=p.ok ho;obtain⟨es',e1,e2,e3,e4,e5⟩:=TZ.1;rw[hn]at e1;cases e1;have y9:nodes' b=some (2,es):=by rw[CJ b List.mem_cons_self,hn]
   have G8:=h.only h1 hn (aP am);have pa:∀j,j<es.length→j≠i→U (kd es j):=fun j hj dq=>by
    rcases TF b List.mem_cons_self _ hn _ (aP hj)with q | q
    ·exact q
    ·exfalso
     rcases List.mem_cons.1 q with q | q
     ·exact dq (dY G8.2.1 am hj q)
     ·have a1:=eL (hh b _ hn) (aP hj)
      rcases List.mem_cons.1 q with q | q
      ·rw[q]at a1;omega
      ·have:=p.high hh _ q;omega
   refine ih ?_ ?_ ?_ ?_ ?_
   ·refine⟨es,y9,e2,e3,e4,fun j hj=>?_⟩
    by_cases e:j=i
    ·subst e;exact⟨bd (by simp),kg⟩
    ·refine⟨?_,fr _ _ _ _ (pa j hj e) (e5 j hj).2⟩
     unfold sz;rw[gd _ (pa j hj e)];exact(e5 j hj).1
   ·intro hP
    have:=TZ.2 hP
    unfold sz at this ⊢;rw[hn]at this;rw[y9];exact this
   ·exact p.high hh
   ·intro x hx;exact CJ x (List.mem_cons_of_mem _ hx)
   ·intro x hx d hd c hc
    rcases TF x (List.mem_cons_of_mem _ hx) d hd c hc with q | q
    ·exact .inl q
    ·rcases List.mem_cons.1 q with q | q
     ·exfalso
      have:=G8.2.2 x d hd (q▸hc)
      have a:=p.high hh x hx;rw[this]at a;omega
     ·exact .inr q
 ·have Dx:U (aB f u):=?_
  ·exact⟨gd _ Dx,fun k' qp=>fr k' _ _ _ Dx qp⟩
  refine⟨h.root_live (aO hu),fun hm=>?_,fun jh=>?_⟩
  ·obtain⟨a1,a2,a3⟩:=J8 _ hm
   have FD:0<rc f.roots (aB f u):=List.count_pos_iff.2 (List.mem_map_of_mem (aO hu));rcases a3 with a3 | a3
   ·have h1:=(h.onlyRoot (aO hu) a1).1
    have JQ:=fP (f.roots.map fun r=>r.2.toNat) u (aB f u) (by simpa using hu);have g1:(f.roots.map fun r=>r.2.toNat).getD u 0=aB f u:=by simp[aB,gD,hu]
    have g2:(f.roots.map fun r=>r.2.toNat).getD t 0=aB f u:=by rw[a3];simp[aB,gD,ht]
    rw[g1,cA]at JQ;have N3:(f.roots.map fun r=>r.2.toNat).count (aB f u)=1:=h1;have h0:(delE (f.roots.map fun r=>r.2.toNat) u).count (aB f u)=0:=by omega
    refine List.count_eq_zero.1 h0 ?_;have fw:t <(f.roots.map fun r=>r.2.toNat).length:=by simpa using ht
    rw[gD,gE fw]at g2;simp only[Option.getD_some]at g2;rw[←g2];unfold delE;by_cases ai:t<u
    ·exact List.mem_append_left _ (List.mem_take_iff_getElem.2 ⟨t,by omega,rfl⟩)
    ·refine List.mem_append_right _ (List.mem_drop_iff_getElem.2 ⟨t -(u+1),by omega,?_⟩)
     congr 1;omega
   ·omega
  ·have a:=(h.only (hC _ jh).1 af (hC _ jh).2).1
   have FD:0<rc f.roots (aB f u):=List.count_pos_iff.2 (List.mem_map_of_mem (aO hu));omega
end
end Go.Proofs.YtaahkgkdpnnhhaaGreat.Fo
namespace Go.Proofs.YtaahkgkdpnnhhaaGreat.Fo
theorem rM{α:Type}(l:List α)(z:α)(p:α→Bool)(hm:∀i j,i<j→j<l.length→p (l.getD j z)=true→p (l.getD i z)=true):∀j,j<l.length→(p (l.getD j z)=true↔j <(l.filter p).length):=by
 induction l with
 | nil=>intro j hj;simp at hj
 | cons a l ih=>
  have ih':=ih fun i j im hj h=>by
   have:=hm (i+1) (j+1) (by omega) (by simp;omega) (by simpa using h)
   simpa using this
  intro j hj;cases ha:p a with
  | true=>
   rw[List.filter_cons_of_pos ha,List.length_cons];cases j with
   | zero=>simp[ha]
   | succ j=>
    have:=ih' j (by simpa using hj)
    simp only[List.getD_cons_succ];rw[this];omega
  | false=>
   have ay:∀j,j<l.length→p (l.getD j z)=false:=fun j hj=>by
    cases e:p (l.getD j z)with
    | false=>rfl
    | true=>
     have:=hm 0 (j+1) (by omega) (by simp;omega) (by simpa using e)
     simp[ha]at this
   have hf:l.filter p=[]:=List.filter_eq_nil_iff.2 fun x hx=>by
    obtain⟨j,hj,rfl⟩:=List.mem_iff_getElem.1 hx;have:=ay j hj;rw[gD,gE hj]at this;simpa using this
   rw[List.filter_cons_of_neg (by simp[ha]),hf];cases j with
   | zero=>simp[ha]
   | succ j=>simp only[List.getD_cons_succ];rw[ay j (by simpa using hj)];simp
def cLe(es:List E3)(key:ByteArray):Nat:=(es.filter fun e=>!kl key e.1).length
def cLt(es:List E3)(key:ByteArray):Nat:=(es.filter fun e=>kl e.1 key).length
def bK(es:List E3)(key:ByteArray):Nat:=cLe es key-1
theorem wA(es:List E3)(key:ByteArray):cLe es key≤es.length:=List.length_filter_le ..
theorem kM(es:List E3)(key:ByteArray):cLt es key≤es.length:=List.length_filter_le ..
theorem fY{es:List E3}(hs:Srt es)(key:ByteArray){j:Nat}(hj:j<es.length):kl key (ky es j)=false↔j<cLe es key:=by
 have:=rM es e0 (fun e=>!kl key e.1) (fun i j im hj h=>by
  have a:=hs i j im hj;simp only[Bool.not_eq_true']at h ⊢;exact gL (fE a) h) j hj
 simp only[Bool.not_eq_true']at this;exact this
theorem gW{es:List E3}(hs:Srt es)(key:ByteArray){j:Nat}(hj:j<es.length):kl (ky es j) key=true↔j<cLt es key:=
 rM es e0 (fun e=>kl e.1 key) (fun i j im hj h=>kH (hs i j im hj) h) j hj
theorem eE{es:List E3}(key:ByteArray)(h:es≠[]):bK es key<es.length:=by
 have:=wA es key
 have:0<es.length:=List.length_pos_iff.2 h
 unfold bK;omega
theorem aJE{es:List E3}(hs:Srt es)(key:ByteArray){j:Nat}(hj:j<es.length)(h:bK es key<j):kl key (ky es j)=true:=by
 cases e:kl key (ky es j)with
 | true=>rfl
 | false=>have:=(fY hs key hj).1 e;unfold bK at h;omega
theorem aJF{es:List E3}(hs:Srt es)(key:ByteArray)(h0:kl key (ky es 0)=false)(hn:es≠[]):kl key (ky es (bK es key))=false:=by
 have h1:0<es.length:=List.length_pos_iff.2 hn;have h2:=(fY hs key h1).1 h0;exact(fY hs key (eE key hn)).2 (by unfold bK;omega)
theorem aCH{es:List E3}(hs:Srt es)(key:ByteArray){j:Nat}(hj:j<es.length)(h1:kl key (ky es j)=false)(h2:j+1<es.length→kl key (ky es (j+1))=true):bK es key=j:=by
 have a:=(fY hs key hj).1 h1;have b:cLe es key≤j+1:=by
  refine Nat.le_of_not_lt fun ai=>?_;have hl:=wA es key;have:=(fY hs key (j:=j+1) (by omega)).2 ai;rw[h2 (by omega)]at this;cases this
 unfold bK;omega
theorem jJ{α:Type}(l:List α)(i:Nat)(e z:α)(hi:i≤l.length)(j:Nat):(insE l i e).getD j z=if j<i then l.getD j z else if j=i then e else l.getD (j-1) z:=by
 unfold insE;have hl:(l.take i).length=i:=by rw[List.length_take];omega
 simp only[gD];by_cases h1:j<i
 ·rw[if_pos h1,List.getElem?_append_left (by rw[hl];exact h1),List.getElem?_take,if_pos h1]
 ·rw[if_neg h1,List.getElem?_append_right (by rw[hl];omega),hl]
  by_cases h2:j=i
  ·subst h2;simp
  ·rw[if_neg h2]
   obtain⟨m,rfl⟩:∃m,j=i+(m+1):=⟨j-i-1,by omega⟩;rw[show i+(m+1)-i=m+1 from by omega,List.getElem?_cons_succ,List.getElem?_drop];congr 2
theorem iO{α:Type}(l:List α)(i:Nat)(e:α):(insE l i e).length=l.length+1:=by
 unfold insE;simp only[lP,List.length_cons,List.length_take,List.length_drop];omega
theorem iG{α:Type}(l:List α)(i:Nat)(z:α)(hi:i≤l.length)(j:Nat):(delE l i).getD j z=if j<i then l.getD j z else l.getD (j+1) z:=by
 unfold delE;have hl:(l.take i).length=i:=by rw[List.length_take];omega
 simp only[gD];by_cases h1:j<i
 ·rw[if_pos h1,List.getElem?_append_left (by rw[hl];exact h1),List.getElem?_take,if_pos h1]
 ·rw[if_neg h1,List.getElem?_append_right (by rw[hl];omega),hl,List.getElem?_drop]
  congr 2;omega
theorem bH{α:Type}(l:List α)(i:Nat)(h:i<l.length):(delE l i).length=l.length-1:=by
 unfold delE;simp only[lP,List.length_take,List.length_drop];omega
theorem fR{α:Type}(l:List α)(m:Nat)(z:α){j:Nat}(h:j<m):(l.take m).getD j z=l.getD j z:=by
 simp only[gD,List.getElem?_take,if_pos h]
theorem eU{α:Type}(l:List α)(m:Nat)(z:α)(j:Nat):(l.drop m).getD j z=l.getD (m+j) z:=by
 simp only[gD,List.getElem?_drop]
theorem bA{α:Type}(l:List α)(i j:Nat)(v z:α)(hi:i<l.length):(l.set i v).getD j z=if j=i then v else l.getD j z:=by
 simp only[gD,List.getElem?_set];by_cases h:i=j
 ·subst h;simp[hi]
 ·rw[if_neg h,if_neg (Ne.symm h)]
theorem cX{α:Type}(l m:List α)(j:Nat)(z:α):(l++m).getD j z=if j<l.length then l.getD j z else m.getD (j-l.length) z:=by
 simp only[gD];by_cases h:j<l.length
 ·rw[if_pos h,List.getElem?_append_left h]
 ·rw[if_neg h,List.getElem?_append_right (by omega)]
section
variable {f : fZ} {t H : Nat}
theorem aN.kid_off(h:IC f){P:List Nat}{b hb:Nat}{lo hi:OB}(p:aN f t H P b hb lo hi){d:Nd}(hd:f.nodes b=some d){c:Nat}(hc:c∈kids d):c∉b :: P:=by
 obtain⟨ur,hh⟩:=h.ht;obtain⟨k,es⟩:=d;have hk:=(cP hc).1;subst hk;have a:=eL (hh b _ hd) hc;intro hm;rcases List.mem_cons.1 hm with q | q
 ·rw[q]at a;omega
 ·have:=p.high hh c q;omega
theorem aN.kid2_off(h:IC f){P:List Nat}{b hb:Nat}{lo hi:OB}(p:aN f t H P b hb lo hi){d:Nd}(hd:f.nodes b=some d){c:Nat}(hc:c∈kids d){d':Nd}(fy:f.nodes c=some d'){c':Nat}(bj:c'∈kids d'):c'∉b :: P∧c'∉kids d:=by
 obtain⟨ur,hh⟩:=h.ht;obtain⟨k,es⟩:=d;obtain⟨k',es'⟩:=d';have hk:=(cP hc).1;subst hk;have qp:=(cP bj).1;subst qp;have a:=eL (hh b _ hd) hc;have a':=eL (hh c _ fy) bj;refine⟨fun hm=>?_,fun hm=>?_⟩
 ·rcases List.mem_cons.1 hm with q | q
  ·rw[q]at a';omega
  ·have:=p.high hh c' q;omega
 ·have:=eL (hh b _ hd) hm;omega
theorem aN.fr(h:IC f)(ht:t<f.roots.length){P:List Nat}{b hb:Nat}{lo hi:OB}(p:aN f t H P b hb lo hi){es:List E3}{k:Int}(af:f.nodes b=some (k,es))
  {nodes':Nat→Option Nd} (C:Nat→Prop) (hC:∀x,C x→cu f x=1∧x∈kids (k,es)) (hN:∀x d,f.nodes x=some d→x≠b→¬C x→nodes' x=some d)
  {x:Nat} {d:Nd} (hx:f.nodes x=some d) (ho:x∉b :: P) (hc:¬C x) {bq:Nat} {lx ux:OB} (hk:Ok f.nodes bq x lx ux):Ok nodes' bq x lx ux∧sz nodes' x=sz f.nodes x:=by
 have J8:=p.named h ht;let U:Nat→Prop:=fun x=>(∃d,f.nodes x=some d)∧x∉b :: P∧¬C x;have lj:∀x d,U x→f.nodes x=some d→∀c∈kids d,U c:=fun x d ⟨_,pr,Hm⟩ hx c hc=>by
  refine⟨h.kid_live hx hc,fun hm=>?_,fun jh=>?_⟩
  ·exact pr (List.mem_cons_of_mem _ ((J8 c hm).2.1 x d hx hc))
  ·have:=(h.only (hC c jh).1 af (hC c jh).2).2.2 x d hx hc
   exact pr (this▸List.mem_cons_self)
 have gd:∀x,U x→nodes' x=f.nodes x:=fun x ⟨⟨d,hd⟩,pr,Hm⟩=>by
  rw[hd];exact hN x d hd (fun e=>pr (e▸List.mem_cons_self)) Hm
 refine⟨Ok.frame lj gd _ _ _ _ ⟨⟨d,hx⟩,ho,hc⟩ hk,?_⟩;unfold sz;rw[gd x ⟨⟨d,hx⟩,ho,hc⟩]
theorem aN.mono{f':fZ}{P:List Nat}{b hb:Nat}{lo hi:OB}(p:aN f t H P b hb lo hi)(hr:aB f' t=aB f t)(hc:∀y∈b :: P,cu f' y=cu f y)(hn:∀y∈P,f'.nodes y=f.nodes y):aN f' t H P b hb lo hi:=by
 induction p using aN.ind with
 | here h1=>
  rw[←hr];exact aN.here (by rw[hr,hc _ List.mem_cons_self];exact h1)
 | @down P b Kn lo hi es i p Jz am h1 ih=>
  refine aN.down (ih (fun y hy=>hc y (List.mem_cons_of_mem _ hy)) fun y hy=>hn y (List.mem_cons_of_mem _ hy)) ?_ am ?_
  ·rw[hn b List.mem_cons_self];exact Jz
  ·rw[hc _ List.mem_cons_self];exact h1
end
structure Wk(f:fZ)(t H:Nat):Prop where
 ic:IC f
 tl:t<f.roots.length
 ok:Ok f.nodes H (aB f t) none none
 oth:∀u,u<f.roots.length→u≠t→∃h,Ok f.nodes h (aB f u) none none∧(h=0∨2≤sz f.nodes (aB f u))
theorem Wk.step{f f':fZ}{t H:Nat}(w:Wk f t H){P:List Nat}{b hb:Nat}{lo hi:OB}(p:aN f t H P b hb lo hi)(am:IC f')(hr:f'.roots=f.roots){es:List E3}{k:Int}(af:f.nodes b=some (k,es))(C:Nat→Prop)
  (hC:∀x,C x→cu f x=1∧x∈kids (k,es)) (hN:∀x d,f.nodes x=some d→x≠b→¬C x→f'.nodes x=some d) (kg:Ok f'.nodes hb b lo hi) (bd:P≠[]→2≤sz f'.nodes b):Wk f' t H:=by
 obtain⟨g1,g2⟩:=p.upd w.ic w.tl w.ok af C hC hN kg bd;have xe:∀u,aB f' u=aB f u:=fun u=>by unfold aB;rw[hr]
 refine⟨am,by rw[hr];exact w.tl,by rw[xe];exact g1,fun u hu yj=>?_⟩;rw[hr]at hu;obtain⟨h,h1,h2⟩:=w.oth u hu yj;obtain⟨g3,g4⟩:=g2 u hu yj;refine⟨h,by rw[xe];exact g4 h h1,?_⟩;rcases h2 with h2 | h2
 ·exact .inl h2
 ·refine .inr ?_
  unfold sz at h2 ⊢;rw[xe,g3];exact h2
theorem aN.top{f:fZ}{t H:Nat}{P:List Nat}{b hb:Nat}{lo hi:OB}(p:aN f t H P b hb lo hi):(P=[]∧b=aB f t∧hb=H)∨(aB f t∈P∧0<H):=by
 induction p using aN.ind with
 | here h1=>exact .inl ⟨rfl,rfl,rfl⟩
 | @down P b Kn lo hi es i p hn am h1 ih=>
  rcases ih with⟨_,q,q'⟩ | ⟨q,q'⟩
  ·exact .inr ⟨by rw[q];exact List.mem_cons_self,by omega⟩
  ·exact .inr ⟨List.mem_cons_of_mem _ q,q'⟩
def cD(f:fZ)(t H:Nat):Prop:=H=0∨2≤sz f.nodes (aB f t)
theorem aN.rt{f f':fZ}{t H:Nat}{P:List Nat}{b hb:Nat}{lo hi:OB}(p:aN f t H P b hb lo hi)(hr:aB f' t=aB f t)(hn:∀y∈P,f'.nodes y=f.nodes y)(hz:0<H→P=[]→2≤sz f'.nodes b)(h:cD f t H):cD f' t H:=by
 rcases h with h | h
 ·exact .inl h
 ·by_cases h0:H=0
  ·exact .inl h0
  ·refine .inr ?_
   rw[hr];rcases p.top with⟨q1,q2,_⟩ | ⟨q,_⟩
   ·rw[←q2];exact hz (by omega) q1
   ·unfold sz at h ⊢;rw[hn _ q];exact h
def lowK(es:List E3)(key:ByteArray):List E3:=if kl key (ky es 0)=true then es.set 0 (key,(es.getD 0 e0).2)else es
theorem cK(es:List E3)(key:ByteArray):(lowK es key).length=es.length:=by unfold lowK;split<;>simp
theorem zB(es:List E3)(key:ByteArray)(j:Nat)(hn:es≠[]):((lowK es key).getD j e0).2=(es.getD j e0).2∧(0<j→ky (lowK es key) j=ky es j):=by
 have h0:0<es.length:=List.length_pos_iff.2 hn;unfold lowK;split
 ·simp only[ky,bA _ _ _ _ _ h0]
  by_cases e:j=0
  ·subst e;simp
  ·simp[e]
 ·exact⟨rfl,fun _=>rfl⟩
theorem vH(es:List E3)(key:ByteArray)(hn:es≠[]):kl key (ky (lowK es key) 0)=false∧(ky (lowK es key) 0=ky es 0∨(ky (lowK es key) 0=key∧kl key (ky es 0)=true)):=by
 have h0:0<es.length:=List.length_pos_iff.2 hn;unfold lowK;split
 ·rename_i h
  have:ky (es.set 0 (key,(es.getD 0 e0).2)) 0=key:=by simp only[ky,bA _ _ _ _ _ h0,if_true]
  rw[this];exact⟨eD _,.inr ⟨rfl,h⟩⟩
 ·rename_i h;exact⟨by simpa using h,.inl rfl⟩
theorem aEE(es:List E3)(key:ByteArray)(hn:es≠[]):kids (2,lowK es key)=kids (2,es):=by
 have h0:0<es.length:=List.length_pos_iff.2 hn;rw[gK,gK];unfold lowK;split
 ·rw[List.map_set]
  have:ch (key,(es.getD 0 e0).2)=(es.map ch).getD 0 0:=(gJ _ _ h0).symm
  rw[this];refine List.ext_getElem? fun j=>?_;rw[List.getElem?_set];split
  ·rename_i h;subst h;simp[gD,h0]
  ·rfl
 ·rfl
theorem nG{l:List E3}{j:Nat}(h:j<l.length):l.getD j e0∈l:=by
 rw[gD,gE h];exact List.getElem_mem h
theorem cY{l:List E3}{e:E3}(h:e∈l):∃j,j<l.length∧l.getD j e0=e:=by
 obtain⟨j,hj,rfl⟩:=List.mem_iff_getElem.1 h;exact⟨j,hj,by rw[gD,gE hj];rfl⟩
theorem IC.child_pos{f:fZ}(h:IC f){b:Nat}{es:List E3}(hd:f.nodes b=some (2,es)){j:Nat}(hj:j<es.length):0≤(es.getD j e0).2.2:=by
 rcases h.kb b _ hd with q | ⟨_,_,q⟩
 ·simp at q
 ·exact(q _ (nG hj)).1
theorem Wk.lowKey{f:fZ}{t H:Nat}(w:Wk f t H){P:List Nat}{b h:Nat}{lo hi:OB}(p:aN f t H P b (h+1) lo hi){es:List E3}(af:f.nodes b=some (2,es))(key:ByteArray)(hk:loR lo key):
  Wk (setN f b (2,lowK es key)) t H∧aN (setN f b (2,lowK es key)) t H P b (h+1) lo hi∧(cD f t H→cD (setN f b (2,lowK es key)) t H):=by
 obtain⟨es',e1,e2,e3,e4,e5⟩:=(p.ok w.ok).1;rw[af]at e1;cases e1;have bx:=fun j=>zB es key j e3;have iw:∀j,kd (lowK es key) j=kd es j:=fun j=>by unfold kd ch;rw[(bx j).1]
 obtain⟨z1,z2⟩:=vH es key e3;have hI:IC (setN f b (2,lowK es key)):=w.ic.keys af (aEE es key e3) fun _ e he=>by
  obtain⟨j,hj,rfl⟩:=cY he;rw[cK]at hj;rw[(bx j).1];exact w.ic.child_pos af hj
 have y9:(setN f b (2,lowK es key)).nodes b=some (2,lowK es key):=aD _ _ _;have ul:∀x,x≠b→(setN f b (2,lowK es key)).nodes x=f.nodes x:=fun x hx=>aC _ _ hx;have av:∀y∈P,y≠b:=fun y hy e=>by
  obtain⟨ur,hh⟩:=w.ic.ht;have:=p.high hh y hy;rw[e]at this;omega
 have Jp:∀j,j<es.length→kl (ky es j) (ky (lowK es key) j)=false:=fun j hj=>by
  cases j with
  | zero=>
   rcases z2 with q | ⟨q,q'⟩
   ·rw[q];exact eD _
   ·rw[q];exact fE q'
  | succ j=>rw[(bx (j+1)).2 (by omega)];exact eD _
 have i5:∀j,nxt (lowK es key) j hi=nxt es j hi:=fun j=>by
  unfold nxt;rw[cK,(bx (j+1)).2 (by omega)]
 refine⟨w.step p hI rfl af (fun _=>False) (fun _ q=>q.elim) (fun x d hx ut _=>by rw[ul x ut];exact hx) ?_ ?_,p.mono rfl (fun _ _=>rfl) (fun y hy=>ul y (av y hy)),fun hr=>p.rt rfl (fun y hy=>ul y (av y hy)) (fun h0 hP=>?_) hr⟩
 ·refine⟨lowK es key,y9,⟨?_,?_,?_,by rw[cK];exact e2.le5⟩,?_,?_,?_⟩
  ·intro i j im hj
   rw[cK]at hj;rw[(bx j).2 (by omega)];exact kU (Jp i (by omega)) (e2.srt i j im hj)
  ·intro j hj
   rw[cK]at hj;cases j with
   | zero=>
    rcases z2 with q | ⟨q,q'⟩
    ·rw[q];exact e2.lo 0 hj
    ·rw[q];exact hk
   | succ j=>rw[(bx (j+1)).2 (by omega)];exact e2.lo _ hj
  ·intro j hj
   rw[cK]at hj;have a:=e2.hi j hj;cases hi with
   | none=>trivial
   | some u=>exact kU (Jp j hj) a
  ·intro q;exact e3 (List.length_eq_zero_iff.1 (by rw[←cK es key,q];rfl))
  ·intro j hj;rw[cK]at hj;rw[(bx j).1];exact e4 j hj
  ·intro j hj
   rw[cK]at hj;rw[iw,i5];obtain⟨d,hd⟩:=w.ic.kid_live af (aP hj);obtain⟨g1,g2⟩:=p.fr w.ic w.tl af (nodes':=(setN f b (2,lowK es key)).nodes) (fun _=>False) (fun _ q=>q.elim) (fun x d hx ut _=>by rw[ul x ut];exact hx) hd (p.kid_off w.ic af (aP hj)) id (e5 j hj).2;refine⟨by rw[g2];exact(e5 j hj).1,g1.wide (fun k hk=>?_) fun _ q=>q⟩;exact gL (Jp j hj) hk
 ·intro hP
  have:=(p.ok w.ok).2 hP
  unfold sz at this ⊢;rw[y9];rw[af]at this;simp only[cK]at *;exact this
 ·rcases hr with hr | hr
  ·omega
  ·rcases p.top with⟨_,q,_⟩ | ⟨q,_⟩
   ·unfold sz at hr ⊢;rw[y9];rw[←q,af]at hr;simp only[cK]at *;exact hr
   ·rw[hP]at q;cases q
end Go.Proofs.YtaahkgkdpnnhhaaGreat.Fo
namespace Go.Proofs.YtaahkgkdpnnhhaaGreat.Fo
variable{H b h q t x:Nat}{d:Nd}{hi lo:OB}{f:fZ}
theorem mP(h:IC f){u:Nat}(ht:t<f.roots.length)(hu:u<f.roots.length)(yj:u≠t)(h1:cu f (aB f t)=1):aB f u≠aB f t:=fun a3=>by
 have a:=(h.onlyRoot (aO ht) h1).1;have JQ:=fP (f.roots.map fun r=>r.2.toNat) t (aB f t) (by simpa using ht);have g1:(f.roots.map fun r=>r.2.toNat).getD t 0=aB f t:=by simp[aB,gD,ht]
 have g2:(f.roots.map fun r=>r.2.toNat).getD u 0=aB f t:=by rw[←a3];simp[aB,gD,hu]
 rw[g1,cA]at JQ;have N3:(f.roots.map fun r=>r.2.toNat).count (aB f t)=1:=a;have h0:(delE (f.roots.map fun r=>r.2.toNat) t).count (aB f t)=0:=by omega
 refine List.count_eq_zero.1 h0 ?_;have fw:u <(f.roots.map fun r=>r.2.toNat).length:=by simpa using hu
 rw[gD,gE fw]at g2;simp only[Option.getD_some]at g2;rw[←g2];unfold delE;by_cases ai:u<t
 ·exact List.mem_append_left _ (List.mem_take_iff_getElem.2 ⟨u,by omega,rfl⟩)
 ·refine List.mem_append_right _ (List.mem_drop_iff_getElem.2 ⟨u -(t+1),by omega,?_⟩)
  congr 1;omega
theorem nA(hb:b<f.cur.length)(hd:f.nodes b=some d)(hk:∀c∈kids d,c<f.cur.length)(h1:x≠b)(h2:x∉kids d):cu (letGo f b) x=cu f x:=by
 by_cases e:cu f b=1
 ·unfold letGo;rw[if_pos e]
  show(List.set _ b 0).getD x 0=_
  rw[fC _ _ _ _ hb,if_neg (Ne.symm h1)]
 ·rw[rD hb hd hk e,if_neg (Ne.symm h1),List.count_eq_zero.2 h2];simp
theorem uS(h:IC f){L:Loc}(hL:dR f L)(hb:bI f L=b)(hd:f.nodes b=some d)(ml:q<f.cur.length)(hc:cu f q=0)(h1:x≠b)(h2:x∉kids d)(h3:x≠q):
  cu (shadowAt f L q) x=cu f x:=by
 have de:f.nodes q=none:=(h.dom.dead q).2 hc;have mi:b≠q:=fun e=>by rw[e,de]at hd;cases hd
 have hs:shadowAt f L q=letGo (setL (takeAt f q d) L q) b:=by unfold shadowAt;rw[hb,aE hd]
 have hl:(setL (takeAt f q d) L q).cur.length=f.cur.length:=by rw[bE];simp[takeAt]
 have so:(setL (takeAt f q d) L q).nodes b=some d:=by
  cases L with
  | inl t=>show upd f.nodes q (some d) b=_;rw[aC _ _ mi];exact hd
  | inr bi=>
   obtain⟨p,i⟩:=bi;obtain⟨hp,es,he,hi⟩:=hL;have Rc:p≠q:=fun e=>by rw[e,de]at he;cases he
   have As:look f p=(2,es):=aE he;have qa:b∈kids (2,es):=by rw[←hb];simp only[bI,As];exact gM hi
   have qr:p≠b:=fun e=>h.not_self he (e▸qa);simp only[setL,setN];rw[aC _ _ (Ne.symm qr)];show upd f.nodes q (some d) b=_;rw[aC _ _ mi];exact hd
 rw[hs,nA (by rw[hl];exact h.lt hd) so (fun c hc=>by rw[hl];exact h.kid_lt hd hc) h1 h2];unfold cu;rw[bE];have:=dT d ml x;unfold cu at this;rw[this,if_neg (Ne.symm h3)]
theorem eK(f:fZ)(b i q:Nat):(shadowAt f (.ent b i) q).roots=f.roots:=by
 unfold shadowAt;rw[dV];rfl
theorem dK(f:fZ)(t q:Nat):(shadowAt f (.root t) q).roots=f.roots.set t ((f.roots.getD t (0,0)).1,(q:Int)):=by
 unfold shadowAt;rw[dV];rfl
theorem Ok.copy{nodes nodes':Nat→Option Nd}(hd:nodes b=some d)(hq:nodes' q=some d)(hk:Ok nodes h b lo hi)
  (hf:∀c∈kids d,∀h' lo' am,Ok nodes h' c lo' am→Ok nodes' h' c lo' am∧sz nodes' c=sz nodes c):Ok nodes' h q lo hi:=by
 cases h with
 | zero=>obtain⟨es,e1,e2⟩:=hk;rw[hd]at e1;cases e1;exact⟨es,hq,e2⟩
 | succ h=>
  obtain⟨es,e1,e2,e3,e4,e5⟩:=hk;rw[hd]at e1;cases e1;refine⟨es,hq,e2,e3,e4,fun j hj=>?_⟩;obtain⟨g1,g2⟩:=hf _ (aP hj) _ _ _ (e5 j hj).2;exact⟨by rw[g2];exact(e5 j hj).1,g1⟩
theorem Wk.shadowEnt(w:Wk f t H){P:List Nat}(p:aN f t H P b (h+1) lo hi){es:List E3}(af:f.nodes b=some (2,es)){i:Nat}(am:i<es.length)(hd:f.nodes (kd es i)=some d)(gp:2≤q)(ml:q<f.cur.length)(hc:cu f q=0):
  Wk (shadowAt f (.ent b i) q) t H∧aN (shadowAt f (.ent b i) q) t H P b (h+1) lo hi∧aN (shadowAt f (.ent b i) q) t H (b :: P) q h (some (ky es i)) (nxt es i hi)∧
   (shadowAt f (.ent b i) q).nodes b=some (setE (2,es) i q)∧(shadowAt f (.ent b i) q).nodes q=some d∧cu (shadowAt f (.ent b i) q) q=1∧(shadowAt f (.ent b i) q).com=f.com∧(shadowAt f (.ent b i) q).cur.length=f.cur.length∧(cD f t H→cD (shadowAt f (.ent b i) q) t H):=by
 have gk:look f b=(2,es):=aE af;have hL:dR f (.ent b i):=⟨w.ic.lt af,es,af,am⟩;have hg:bI f (.ent b i)=kd es i:=by simp only[bI,gk];rfl
 obtain⟨I1,I2,I3,I4,I5⟩:=w.ic.shadow hL hg hd gp ml hc;have de:f.nodes q=none:=(w.ic.dom.dead q).2 hc;have fh:=aP am;have pp:kd es i≠b:=fun e=>w.ic.not_self af (by rw[←e];exact fh);have AF:kd es i≠q:=fun e=>by rw[e,de]at hd;cases hd
 have mi:b≠q:=fun e=>by rw[e,de]at af;cases af
 have AV:=w.ic.not_self hd;obtain⟨es',e1,e2,e3,e4,e5⟩:=(p.ok w.ok).1;rw[af]at e1;cases e1;have nb:(shadowAt f (.ent b i) q).nodes b=some (setE (2,es) i q):=by
  rw[I2];unfold shN cpN;simp only[gk];split
  ·rw[aC _ _ (Ne.symm pp),aD]
  ·rw[aD]
 have nq:(shadowAt f (.ent b i) q).nodes q=some d:=by
  rw[I2];unfold shN cpN;simp only;split
  ·rw[aC _ _ (Ne.symm AF),aC _ _ (Ne.symm mi),aD]
  ·rw[aC _ _ (Ne.symm mi),aD]
 have nx:∀x,x≠b→x≠q→¬(x=kd es i∧cu f (kd es i)=1)→(shadowAt f (.ent b i) q).nodes x=f.nodes x:=fun x h1 h2 h3=>by
  rw[I2];unfold shN cpN;simp only;split
  ·rename_i nk
   rw[aC _ _ (fun e=>h3 ⟨e,nk⟩),aC _ _ h1,aC _ _ h2]
  ·rw[aC _ _ h1,aC _ _ h2]
 have ed:∀{x:Nat} {d':Nd},f.nodes x=some d'→x≠q:=fun hx e=>by rw[e,de]at hx;cases hx
 have fr:=fun {x:Nat} {d':Nd} (hx:f.nodes x=some d')=>p.fr w.ic w.tl af (nodes':=(shadowAt f (.ent b i) q).nodes) (fun x=>x=kd es i∧cu f (kd es i)=1) (fun x ⟨q1,q2⟩=>⟨by rw[q1];exact q2,by rw[q1];exact fh⟩) (fun x d hx ut Ad=>by rw[nx x ut (ed hx) Ad];exact hx) hx;have Cy:∀j,((es.set i ((es.getD i e0).1,(es.getD i e0).2.1,(q:Int))).getD j e0).1=ky es j∧((es.set i ((es.getD i e0).1,(es.getD i e0).2.1,(q:Int))).getD j e0).2.1=(es.getD j e0).2.1∧kd (es.set i ((es.getD i e0).1,(es.getD i e0).2.1,(q:Int))) j=if j=i then q else kd es j:=fun j=>by
  unfold kd;rw[bA _ _ _ _ _ am];by_cases e:j=i
  ·subst e;simp[ky,ch]
  ·simp[e,ky]
 have hP:∀y∈b :: P,cu (shadowAt f (.ent b i) q) y=cu f y:=fun y hy=>by
  obtain⟨dy,JX⟩:=p.live w.ic w.tl y hy;refine uS w.ic hL hg hd ml hc (fun e=>?_) (fun hk=>?_) (ed JX)
  ·exact p.kid_off w.ic af fh (e▸hy)
  ·exact(p.kid2_off w.ic af fh hd hk).1 hy
 have so:(shadowAt f (.ent b i) q).nodes b=some (2,es.set i ((es.getD i e0).1,(es.getD i e0).2.1,(q:Int))):=nb;have CJ:∀y∈P,(shadowAt f (.ent b i) q).nodes y=f.nodes y:=fun y hy=>by
  obtain⟨dy,JX⟩:=p.live w.ic w.tl y (List.mem_cons_of_mem _ hy);refine nx y (fun e=>?_) (ed JX) fun q'=>?_
  ·obtain⟨ur,hh⟩:=w.ic.ht
   have:=p.high hh y hy;rw[e]at this;omega
  ·exact p.kid_off w.ic af fh (q'.1▸List.mem_cons_of_mem _ hy)
 have p':aN (shadowAt f (.ent b i) q) t H P b (h+1) lo hi:=p.mono (by unfold aB;rw[eK]) hP CJ;have ah:(es.set i ((es.getD i e0).1,(es.getD i e0).2.1,(q:Int))).length=es.length:=by simp
 have M3:∀j,nxt (es.set i ((es.getD i e0).1,(es.getD i e0).2.1,(q:Int))) j hi=nxt es j hi:=fun j=>by
  unfold nxt;rw[ah];unfold ky;rw[(Cy (j+1)).1];rfl
 have ui:∀c∈kids d,∀h' lo' am,Ok f.nodes h' c lo' am→Ok (shadowAt f (.ent b i) q).nodes h' c lo' am∧sz (shadowAt f (.ent b i) q).nodes c=sz f.nodes c:=fun c bj h' lo' am hk=>by
  obtain⟨dc,jd⟩:=w.ic.kid_live hd bj;exact fr jd (p.kid2_off w.ic af fh hd bj).1 (fun q'=>AV (q'.1▸bj)) hk
 refine⟨w.step p I1 (eK f b i q) af (fun x=>x=kd es i∧cu f (kd es i)=1) (fun x ⟨q1,q2⟩=>⟨by rw[q1];exact q2,by rw[q1];exact fh⟩) (fun x d hx ut Ad=>by rw[nx x ut (ed hx) Ad];exact hx) ?_ ?_,p',?_,nb,nq,I5,I4,I3,fun hr=>p.rt (by unfold aB;rw[eK]) CJ (fun h0 hP=>?_) hr⟩
 ·refine⟨_,so,⟨?_,?_,?_,by rw[ah];exact e2.le5⟩,?_,?_,?_⟩
  ·intro a c xd bj
   rw[ah]at bj;unfold ky;rw[(Cy a).1,(Cy c).1];exact e2.srt a c xd bj
  ·intro j hj;rw[ah]at hj;unfold ky;rw[(Cy j).1];exact e2.lo j hj
  ·intro j hj;rw[ah]at hj;unfold ky;rw[(Cy j).1];exact e2.hi j hj
  ·intro e;exact e3 (List.length_eq_zero_iff.1 (by rw[←ah,e];rfl))
  ·intro j hj;rw[ah]at hj;rw[(Cy j).2.1];exact e4 j hj
  ·intro j hj
   rw[ah]at hj;rw[M3,(Cy j).2.2];unfold ky;rw[(Cy j).1];by_cases e:j=i
   ·subst e
    rw[if_pos rfl];refine⟨?_,Ok.copy hd nq (e5 j hj).2 ui⟩;have:=(e5 j hj).1;unfold sz at this ⊢;rw[nq];rw[hd]at this;exact this
   ·rw[if_neg e]
    obtain⟨dj,JT⟩:=w.ic.kid_live af (aP hj);obtain⟨g1,g2⟩:=fr JT (p.kid_off w.ic af (aP hj)) (fun q'=>e (dY (w.ic.only q'.2 af fh).2.1 am hj q'.1)) (e5 j hj).2;exact⟨by rw[g2];exact(e5 j hj).1,g1⟩
 ·intro Ps
  have:=(p.ok w.ok).2 Ps
  unfold sz at this ⊢;rw[so];rw[af]at this;simp only[ah]at *;exact this
 ·have Kv:kd (es.set i ((es.getD i e0).1,(es.getD i e0).2.1,(q:Int))) i=q:=by rw[(Cy i).2.2,if_pos rfl]
  have:=aN.down p' so (i:=i) (by rw[ah];exact am) (by rw[Kv];exact I5)
  rw[Kv,M3]at this;have qp:ky (es.set i ((es.getD i e0).1,(es.getD i e0).2.1,(q:Int))) i=ky es i:=(Cy i).1;rw[qp]at this;exact this
 ·rcases hr with hr | hr
  ·omega
  ·rcases p.top with⟨_,q',_⟩ | ⟨q',_⟩
   ·unfold sz at hr ⊢;rw[so];rw[←q',af]at hr;simp only[ah]at *;exact hr
   ·rw[hP]at q';cases q'
theorem Wk.shadowRoot(w:Wk f t H)(hd:f.nodes (aB f t)=some d)(gp:2≤q)(ml:q<f.cur.length)(hc:cu f q=0):
  Wk (shadowAt f (.root t) q) t H∧aN (shadowAt f (.root t) q) t H [] q H none none∧aB (shadowAt f (.root t) q) t=q∧(shadowAt f (.root t) q).nodes q=some d∧(shadowAt f (.root t) q).com=f.com∧(shadowAt f (.root t) q).cur.length=f.cur.length∧(cD f t H→cD (shadowAt f (.root t) q) t H):=by
 obtain⟨I1,I2,I3,I4,I5⟩:=w.ic.shadow (L:=.root t) w.tl rfl hd gp ml hc;have de:f.nodes q=none:=(w.ic.dom.dead q).2 hc;have mi:aB f t≠q:=fun e=>by rw[e,de]at hd;cases hd
 have hr:aB (shadowAt f (.root t) q) t=q:=by
  unfold aB;rw[dK];simp[gD,w.tl]
 have FD:∀u,u≠t→aB (shadowAt f (.root t) q) u=aB f u:=fun u hu=>by
  unfold aB;rw[dK];simp only[gD,List.getElem?_set,if_neg (Ne.symm hu)]
 have vq:(shadowAt f (.root t) q).nodes=if cu f (aB f t)=1 then upd (upd f.nodes q (some d)) (aB f t) none else upd f.nodes q (some d):=I2;have nq:(shadowAt f (.root t) q).nodes q=some d:=by
  rw[vq];split
  ·rw[aC _ _ (Ne.symm mi),aD]
  ·rw[aD]
 let U:Nat→Prop:=fun x=>(∃d,f.nodes x=some d)∧(cu f (aB f t)=1→x≠aB f t)
 have lj:∀x d,U x→f.nodes x=some d→∀c∈kids d,U c:=fun x d' _ hx c bj=>
  ⟨w.ic.kid_live hx bj,fun h1 e=>(w.ic.onlyRoot (aO w.tl) h1).2 x d' hx (by have:c=(f.roots.getD t (0,0)).2.toNat:=e;rw[←this];exact bj)⟩
 have gd:∀x,U x→(shadowAt f (.root t) q).nodes x=f.nodes x:=fun x ⟨⟨d',hx⟩,h1⟩=>by
  have Bz:x≠q:=fun e=>by rw[e,de]at hx;cases hx
  rw[vq];split
  ·rename_i nk;rw[aC _ _ (h1 nk),aC _ _ Bz]
  ·rw[aC _ _ Bz]
 have fr:=Ok.frame lj gd;refine⟨⟨I1,by rw[dK];simpa using w.tl,?_,fun u hu yj=>?_⟩,?_,hr,nq,I4,I3,fun hz=>hz.imp id fun hz=>by rw[hr];unfold sz at hz ⊢;rw[nq];rw[hd]at hz;exact hz⟩
 ·rw[hr]
  refine Ok.copy hd nq w.ok fun c bj h' lo' am hk=>?_;have Ao:U c:=⟨w.ic.kid_live hd bj,fun _ e=>w.ic.not_self hd (e▸bj)⟩;exact⟨fr _ _ _ _ Ao hk,by unfold sz;rw[gd c Ao]⟩
 ·rw[dK]at hu
  have hu:u<f.roots.length:=by simpa using hu
  obtain⟨h,h1,h2⟩:=w.oth u hu yj;have Dx:U (aB f u):=⟨w.ic.root_live (aO hu),fun h1=>mP w.ic w.tl hu yj h1⟩;refine⟨h,by rw[FD u yj];exact fr _ _ _ _ Dx h1,?_⟩;rcases h2 with h2 | h2
  ·exact .inl h2
  ·refine .inr ?_
   unfold sz at h2 ⊢;rw[FD u yj,gd _ Dx];exact h2
 ·have:=aN.here (f:=shadowAt f (.root t) q) (t:=t) (H:=H) (by rw[hr];exact I5)
  rw[hr]at this;exact this
