import Derived.Test.YtaahkgkdpnnhhaaGreatFo6
set_option linter.all false
namespace Go.Proofs.YtaahkgkdpnnhhaaGreat.Fo
section
variable {f : fZ} {t H : Nat}
theorem aN.kid_off(h:IC f){P:List Nat}{b hb:Nat}{lo hi:OB}(p:aN f t H P b hb lo hi){d:Nd}(hd:f.nodes b=some d){c:Nat}(hc:c∈kids d):c∉b :: P:=by
 obtain⟨ht',hh⟩:=h.ht;obtain⟨k,es⟩:=d;have hk:=(cL hc).1;subst hk;have a:=eM (hh b _ hd) hc;intro hm;rcases List.mem_cons.1 hm with q | q
 ·rw[q]at a;omega
 ·have:=p.high hh c q;omega
theorem aN.kid2_off(h:IC f){P:List Nat}{b hb:Nat}{lo hi:OB}(p:aN f t H P b hb lo hi){d:Nd}(hd:f.nodes b=some d){c:Nat}(hc:c∈kids d){d':Nd}(hd':f.nodes c=some d'){c':Nat}(hc':c'∈kids d'):c'∉b :: P∧c'∉kids d:=by
 obtain⟨ht',hh⟩:=h.ht;obtain⟨k,es⟩:=d;obtain⟨k',es'⟩:=d';have hk:=(cL hc).1;subst hk;have hk':=(cL hc').1;subst hk';have a:=eM (hh b _ hd) hc;have a':=eM (hh c _ hd') hc';refine⟨fun hm=>?_,fun hm=>?_⟩
 ·rcases List.mem_cons.1 hm with q | q
  ·rw[q]at a';omega
  ·have:=p.high hh c' q;omega
 ·have:=eM (hh b _ hd) hm;omega
theorem aN.fr(h:IC f)(ht:t<f.roots.length){P:List Nat}{b hb:Nat}{lo hi:OB}(p:aN f t H P b hb lo hi){es:List E3}{k:Int}(hes:f.nodes b=some (k,es))
  {nodes':Nat→Option Nd} (C:Nat→Prop) (hC:∀x,C x→cu f x=1∧x∈kids (k,es)) (hN:∀x d,f.nodes x=some d→x≠b→¬C x→nodes' x=some d)
  {x:Nat} {d:Nd} (hx:f.nodes x=some d) (ho:x∉b :: P) (hc:¬C x) {hx':Nat} {lx ux:OB} (hk:Ok f.nodes hx' x lx ux):Ok nodes' hx' x lx ux∧sz nodes' x=sz f.nodes x:=by
 have hnm:=p.named h ht;let U:Nat→Prop:=fun x=>(∃d,f.nodes x=some d)∧x∉b :: P∧¬C x;have hUc:∀x d,U x→f.nodes x=some d→∀c∈kids d,U c:=fun x d ⟨_,hx2,hx3⟩ hx c hc=>by
  refine⟨h.kid_live hx hc,fun hm=>?_,fun hcc=>?_⟩
  ·exact hx2 (List.mem_cons_of_mem _ ((hnm c hm).2.1 x d hx hc))
  ·have:=(h.only (hC c hcc).1 hes (hC c hcc).2).2.2 x d hx hc
   exact hx2 (this▸List.mem_cons_self)
 have hUe:∀x,U x→nodes' x=f.nodes x:=fun x ⟨⟨d,hd⟩,hx2,hx3⟩=>by
  rw[hd];exact hN x d hd (fun e=>hx2 (e▸List.mem_cons_self)) hx3
 refine⟨Ok.frame hUc hUe _ _ _ _ ⟨⟨d,hx⟩,ho,hc⟩ hk,?_⟩;unfold sz;rw[hUe x ⟨⟨d,hx⟩,ho,hc⟩]
theorem aN.mono{f':fZ}{P:List Nat}{b hb:Nat}{lo hi:OB}(p:aN f t H P b hb lo hi)(hr:aB f' t=aB f t)(hc:∀y∈b :: P,cu f' y=cu f y)(hn:∀y∈P,f'.nodes y=f.nodes y):aN f' t H P b hb lo hi:=by
 induction p using aN.ind with
 | here h1=>
  rw[←hr];exact aN.here (by rw[hr,hc _ List.mem_cons_self];exact h1)
 | @down P b hh' lo hi es i p hn' hi' h1 ih=>
  refine aN.down (ih (fun y hy=>hc y (List.mem_cons_of_mem _ hy)) fun y hy=>hn y (List.mem_cons_of_mem _ hy)) ?_ hi' ?_
  ·rw[hn b List.mem_cons_self];exact hn'
  ·rw[hc _ List.mem_cons_self];exact h1
end
structure Wk(f:fZ)(t H:Nat):Prop where
 ic:IC f
 tl:t<f.roots.length
 ok:Ok f.nodes H (aB f t) none none
 oth:∀u,u<f.roots.length→u≠t→∃h,Ok f.nodes h (aB f u) none none∧(h=0∨2≤sz f.nodes (aB f u))
theorem Wk.step{f f':fZ}{t H:Nat}(w:Wk f t H){P:List Nat}{b hb:Nat}{lo hi:OB}(p:aN f t H P b hb lo hi)(hi':IC f')(hr:f'.roots=f.roots){es:List E3}{k:Int}(hes:f.nodes b=some (k,es))(C:Nat→Prop)
  (hC:∀x,C x→cu f x=1∧x∈kids (k,es)) (hN:∀x d,f.nodes x=some d→x≠b→¬C x→f'.nodes x=some d) (hok:Ok f'.nodes hb b lo hi) (hsz:P≠[]→2≤sz f'.nodes b):Wk f' t H:=by
 obtain⟨g1,g2⟩:=p.upd w.ic w.tl w.ok hes C hC hN hok hsz;have hb':∀u,aB f' u=aB f u:=fun u=>by unfold aB;rw[hr]
 refine⟨hi',by rw[hr];exact w.tl,by rw[hb'];exact g1,fun u hu hut=>?_⟩;rw[hr]at hu;obtain⟨h,h1,h2⟩:=w.oth u hu hut;obtain⟨g3,g4⟩:=g2 u hu hut;refine⟨h,by rw[hb'];exact g4 h h1,?_⟩;rcases h2 with h2 | h2
 ·exact .inl h2
 ·refine .inr ?_
  unfold sz at h2 ⊢;rw[hb',g3];exact h2
theorem aN.top{f:fZ}{t H:Nat}{P:List Nat}{b hb:Nat}{lo hi:OB}(p:aN f t H P b hb lo hi):(P=[]∧b=aB f t∧hb=H)∨(aB f t∈P∧0<H):=by
 induction p using aN.ind with
 | here h1=>exact .inl ⟨rfl,rfl,rfl⟩
 | @down P b hh' lo hi es i p hn hi' h1 ih=>
  rcases ih with⟨_,q,q'⟩ | ⟨q,q'⟩
  ·exact .inr ⟨by rw[q];exact List.mem_cons_self,by omega⟩
  ·exact .inr ⟨List.mem_cons_of_mem _ q,q'⟩
def cD(f:fZ)(t H:Nat):Prop:=H=0∨2≤sz f.nodes (aB f t)
theorem aN.rt{f f':fZ}{t H:Nat}{P:List Nat}{b hb:Nat}{lo hi:OB}(p:aN f t H P b hb lo hi)(hr:aB f' t=aB f t)(hn:∀y∈P,f'.nodes y=f.nodes y)(hz:0<H→P=[]→2≤sz f'.nodes b)(h:cD f t H):cD f' t H:=by
 rcases h with h | h
 ·exact .inl h
 ·by_cases h0:H=0
  ·exact .inl h0
  ·refine .inr ?_
   rw[hr];rcases p.top with⟨q1,q2,_⟩ | ⟨q,_⟩
   ·rw[←q2];exact hz (by omega) q1
   ·unfold sz at h ⊢;rw[hn _ q];exact h
def lowK(es:List E3)(key:ByteArray):List E3:=if kl key (ky es 0)=true then es.set 0 (key,(es.getD 0 e0).2)else es
theorem cH(es:List E3)(key:ByteArray):(lowK es key).length=es.length:=by unfold lowK;split<;>simp
theorem yP(es:List E3)(key:ByteArray)(j:Nat)(hn:es≠[]):((lowK es key).getD j e0).2=(es.getD j e0).2∧(0<j→ky (lowK es key) j=ky es j):=by
 have h0:0<es.length:=List.length_pos_iff.2 hn;unfold lowK;split
 ·simp only[ky,bA _ _ _ _ _ h0]
  by_cases e:j=0
  ·subst e;simp
  ·simp[e]
 ·exact⟨rfl,fun _=>rfl⟩
theorem vC(es:List E3)(key:ByteArray)(hn:es≠[]):kl key (ky (lowK es key) 0)=false∧(ky (lowK es key) 0=ky es 0∨(ky (lowK es key) 0=key∧kl key (ky es 0)=true)):=by
 have h0:0<es.length:=List.length_pos_iff.2 hn;unfold lowK;split
 ·rename_i h
  have:ky (es.set 0 (key,(es.getD 0 e0).2)) 0=key:=by simp only[ky,bA _ _ _ _ _ h0,if_true]
  rw[this];exact⟨eD _,.inr ⟨rfl,h⟩⟩
 ·rename_i h;exact⟨by simpa using h,.inl rfl⟩
theorem aDT(es:List E3)(key:ByteArray)(hn:es≠[]):kids (2,lowK es key)=kids (2,es):=by
 have h0:0<es.length:=List.length_pos_iff.2 hn;rw[gL,gL];unfold lowK;split
 ·rw[List.map_set]
  have:ch (key,(es.getD 0 e0).2)=(es.map ch).getD 0 0:=(gK _ _ h0).symm
  rw[this];refine List.ext_getElem? fun j=>?_;rw[List.getElem?_set];split
  ·rename_i h;subst h;simp[gD,h0]
  ·rfl
 ·rfl
theorem oO{l:List E3}{j:Nat}(h:j<l.length):l.getD j e0∈l:=by
 rw[gD,gE h];exact List.getElem_mem h
theorem dP{l:List E3}{e:E3}(h:e∈l):∃j,j<l.length∧l.getD j e0=e:=by
 obtain⟨j,hj,rfl⟩:=List.mem_iff_getElem.1 h;exact⟨j,hj,by rw[gD,gE hj];rfl⟩
theorem IC.child_pos{f:fZ}(h:IC f){b:Nat}{es:List E3}(hd:f.nodes b=some (2,es)){j:Nat}(hj:j<es.length):0≤(es.getD j e0).2.2:=by
 rcases h.kb b _ hd with q | ⟨_,_,q⟩
 ·simp at q
 ·exact(q _ (oO hj)).1
theorem Wk.lowKey{f:fZ}{t H:Nat}(w:Wk f t H){P:List Nat}{b h:Nat}{lo hi:OB}(p:aN f t H P b (h+1) lo hi){es:List E3}(hes:f.nodes b=some (2,es))(key:ByteArray)(hk:loR lo key):
  Wk (setN f b (2,lowK es key)) t H∧aN (setN f b (2,lowK es key)) t H P b (h+1) lo hi∧(cD f t H→cD (setN f b (2,lowK es key)) t H):=by
 obtain⟨es',e1,e2,e3,e4,e5⟩:=(p.ok w.ok).1;rw[hes]at e1;cases e1;have hget:=fun j=>yP es key j e3;have hkd:∀j,kd (lowK es key) j=kd es j:=fun j=>by unfold kd ch;rw[(hget j).1]
 obtain⟨z1,z2⟩:=vC es key e3;have hI:IC (setN f b (2,lowK es key)):=w.ic.keys hes (aDT es key e3) fun _ e he=>by
  obtain⟨j,hj,rfl⟩:=dP he;rw[cH]at hj;rw[(hget j).1];exact w.ic.child_pos hes hj
 have hnb:(setN f b (2,lowK es key)).nodes b=some (2,lowK es key):=aD _ _ _;have hoff:∀x,x≠b→(setN f b (2,lowK es key)).nodes x=f.nodes x:=fun x hx=>aC _ _ hx;have hne:∀y∈P,y≠b:=fun y hy e=>by
  obtain⟨ht',hh⟩:=w.ic.ht;have:=p.high hh y hy;rw[e]at this;omega
 have hkle:∀j,j<es.length→kl (ky es j) (ky (lowK es key) j)=false:=fun j hj=>by
  cases j with
  | zero=>
   rcases z2 with q | ⟨q,q'⟩
   ·rw[q];exact eD _
   ·rw[q];exact fH q'
  | succ j=>rw[(hget (j+1)).2 (by omega)];exact eD _
 have hnx:∀j,nxt (lowK es key) j hi=nxt es j hi:=fun j=>by
  unfold nxt;rw[cH,(hget (j+1)).2 (by omega)]
 refine⟨w.step p hI rfl hes (fun _=>False) (fun _ q=>q.elim) (fun x d hx hxb _=>by rw[hoff x hxb];exact hx) ?_ ?_,p.mono rfl (fun _ _=>rfl) (fun y hy=>hoff y (hne y hy)),fun hr=>p.rt rfl (fun y hy=>hoff y (hne y hy)) (fun h0 hP=>?_) hr⟩
 ·refine⟨lowK es key,hnb,⟨?_,?_,?_,by rw[cH];exact e2.le5⟩,?_,?_,?_⟩
  ·intro i j hij hj
   rw[cH]at hj;rw[(hget j).2 (by omega)];exact lG (hkle i (by omega)) (e2.srt i j hij hj)
  ·intro j hj
   rw[cH]at hj;cases j with
   | zero=>
    rcases z2 with q | ⟨q,q'⟩
    ·rw[q];exact e2.lo 0 hj
    ·rw[q];exact hk
   | succ j=>rw[(hget (j+1)).2 (by omega)];exact e2.lo _ hj
  ·intro j hj
   rw[cH]at hj;have a:=e2.hi j hj;cases hi with
   | none=>trivial
   | some u=>exact lG (hkle j hj) a
  ·intro q;exact e3 (List.length_eq_zero_iff.1 (by rw[←cH es key,q];rfl))
  ·intro j hj;rw[cH]at hj;rw[(hget j).1];exact e4 j hj
  ·intro j hj
   rw[cH]at hj;rw[hkd,hnx];obtain⟨d,hd⟩:=w.ic.kid_live hes (aO hj);obtain⟨g1,g2⟩:=p.fr w.ic w.tl hes (nodes':=(setN f b (2,lowK es key)).nodes) (fun _=>False) (fun _ q=>q.elim) (fun x d hx hxb _=>by rw[hoff x hxb];exact hx) hd (p.kid_off w.ic hes (aO hj)) id (e5 j hj).2;refine⟨by rw[g2];exact(e5 j hj).1,g1.wide (fun k hk=>?_) fun _ q=>q⟩;exact gN (hkle j hj) hk
 ·intro hP
  have:=(p.ok w.ok).2 hP
  unfold sz at this ⊢;rw[hnb];rw[hes]at this;simp only[cH]at *;exact this
 ·rcases hr with hr | hr
  ·omega
  ·rcases p.top with⟨_,q,_⟩ | ⟨q,_⟩
   ·unfold sz at hr ⊢;rw[hnb];rw[←q,hes]at hr;simp only[cH]at *;exact hr
   ·rw[hP]at q;cases q
end Go.Proofs.YtaahkgkdpnnhhaaGreat.Fo
namespace Go.Proofs.YtaahkgkdpnnhhaaGreat.Fo
theorem nA{f:fZ}(h:IC f){t u:Nat}(ht:t<f.roots.length)(hu:u<f.roots.length)(hut:u≠t)(h1:cu f (aB f t)=1):aB f u≠aB f t:=fun a3=>by
 have a:=(h.onlyRoot (aP ht) h1).1;have hd1:=fW (f.roots.map fun r=>r.2.toNat) t (aB f t) (by simpa using ht);have g1:(f.roots.map fun r=>r.2.toNat).getD t 0=aB f t:=by simp[aB,gD,ht]
 have g2:(f.roots.map fun r=>r.2.toNat).getD u 0=aB f t:=by rw[←a3];simp[aB,gD,hu]
 rw[g1,cA]at hd1;have h1':(f.roots.map fun r=>r.2.toNat).count (aB f t)=1:=a;have h0:(delE (f.roots.map fun r=>r.2.toNat) t).count (aB f t)=0:=by omega
 refine List.count_eq_zero.1 h0 ?_;have htl:u <(f.roots.map fun r=>r.2.toNat).length:=by simpa using hu
 rw[gD,gE htl]at g2;simp only[Option.getD_some]at g2;rw[←g2];unfold delE;by_cases hlt:u<t
 ·exact List.mem_append_left _ (List.mem_take_iff_getElem.2 ⟨u,by omega,rfl⟩)
 ·refine List.mem_append_right _ (List.mem_drop_iff_getElem.2 ⟨u -(t+1),by omega,?_⟩)
  congr 1;omega
theorem nF{f:fZ}{b:Nat}{d:Nd}(hb:b<f.cur.length)(hd:f.nodes b=some d)(hk:∀c∈kids d,c<f.cur.length){x:Nat}(h1:x≠b)(h2:x∉kids d):cu (letGo f b) x=cu f x:=by
 by_cases e:cu f b=1
 ·unfold letGo;rw[if_pos e]
  show(List.set _ b 0).getD x 0=_
  rw[fD _ _ _ _ hb,if_neg (Ne.symm h1)]
 ·rw[tI hb hd hk e,if_neg (Ne.symm h1),List.count_eq_zero.2 h2];simp
theorem vY{f:fZ}(h:IC f){L:Loc}(hL:dQ f L){b:Nat}(hb:bJ f L=b){d:Nd}(hd:f.nodes b=some d){q:Nat}(hqn:q<f.cur.length)(hc:cu f q=0){x:Nat}(h1:x≠b)(h2:x∉kids d)(h3:x≠q):
  cu (shadowAt f L q) x=cu f x:=by
 have hqd:f.nodes q=none:=(h.dom.dead q).2 hc;have hbq:b≠q:=fun e=>by rw[e,hqd]at hd;cases hd
 have hs:shadowAt f L q=letGo (setL (takeAt f q d) L q) b:=by unfold shadowAt;rw[hb,aE hd]
 have hl:(setL (takeAt f q d) L q).cur.length=f.cur.length:=by rw[bG];simp[takeAt]
 have hbn:(setL (takeAt f q d) L q).nodes b=some d:=by
  cases L with
  | inl t=>show upd f.nodes q (some d) b=_;rw[aC _ _ hbq];exact hd
  | inr bi=>
   obtain⟨p,i⟩:=bi;obtain⟨hp,es,he,hi⟩:=hL;have hpq:p≠q:=fun e=>by rw[e,hqd]at he;cases he
   have hl':look f p=(2,es):=aE he;have hbk:b∈kids (2,es):=by rw[←hb];simp only[bJ,hl'];exact gM hi
   have hpb:p≠b:=fun e=>h.not_self he (e▸hbk);simp only[setL,setN];rw[aC _ _ (Ne.symm hpb)];show upd f.nodes q (some d) b=_;rw[aC _ _ hbq];exact hd
 rw[hs,nF (by rw[hl];exact h.lt hd) hbn (fun c hc=>by rw[hl];exact h.kid_lt hd hc) h1 h2];unfold cu;rw[bG];have:=dT d hqn x;unfold cu at this;rw[this,if_neg (Ne.symm h3)]
theorem eG(f:fZ)(b i q:Nat):(shadowAt f (.ent b i) q).roots=f.roots:=by
 unfold shadowAt;rw[dU];rfl
theorem dI(f:fZ)(t q:Nat):(shadowAt f (.root t) q).roots=f.roots.set t ((f.roots.getD t (0,0)).1,(q:Int)):=by
 unfold shadowAt;rw[dU];rfl
theorem Ok.copy{nodes nodes':Nat→Option Nd}{h b q:Nat}{lo hi:OB}{d:Nd}(hd:nodes b=some d)(hq:nodes' q=some d)(hk:Ok nodes h b lo hi)
  (hf:∀c∈kids d,∀h' lo' hi',Ok nodes h' c lo' hi'→Ok nodes' h' c lo' hi'∧sz nodes' c=sz nodes c):Ok nodes' h q lo hi:=by
 cases h with
 | zero=>obtain⟨es,e1,e2⟩:=hk;rw[hd]at e1;cases e1;exact⟨es,hq,e2⟩
 | succ h=>
  obtain⟨es,e1,e2,e3,e4,e5⟩:=hk;rw[hd]at e1;cases e1;refine⟨es,hq,e2,e3,e4,fun j hj=>?_⟩;obtain⟨g1,g2⟩:=hf _ (aO hj) _ _ _ (e5 j hj).2;exact⟨by rw[g2];exact(e5 j hj).1,g1⟩
theorem Wk.shadowEnt{f:fZ}{t H:Nat}(w:Wk f t H){P:List Nat}{b h:Nat}{lo hi:OB}(p:aN f t H P b (h+1) lo hi){es:List E3}(hes:f.nodes b=some (2,es)){i:Nat}(hi':i<es.length){d:Nd}(hd:f.nodes (kd es i)=some d){q:Nat}(hq2:2≤q)(hqn:q<f.cur.length)(hc:cu f q=0):
  Wk (shadowAt f (.ent b i) q) t H∧aN (shadowAt f (.ent b i) q) t H P b (h+1) lo hi∧aN (shadowAt f (.ent b i) q) t H (b :: P) q h (some (ky es i)) (nxt es i hi)∧
   (shadowAt f (.ent b i) q).nodes b=some (setE (2,es) i q)∧(shadowAt f (.ent b i) q).nodes q=some d∧cu (shadowAt f (.ent b i) q) q=1∧(shadowAt f (.ent b i) q).com=f.com∧(shadowAt f (.ent b i) q).cur.length=f.cur.length∧(cD f t H→cD (shadowAt f (.ent b i) q) t H):=by
 have hlk:look f b=(2,es):=aE hes;have hL:dQ f (.ent b i):=⟨w.ic.lt hes,es,hes,hi'⟩;have hg:bJ f (.ent b i)=kd es i:=by simp only[bJ,hlk];rfl
 obtain⟨I1,I2,I3,I4,I5⟩:=w.ic.shadow hL hg hd hq2 hqn hc;have hqd:f.nodes q=none:=(w.ic.dom.dead q).2 hc;have hck:=aO hi';have hcb:kd es i≠b:=fun e=>w.ic.not_self hes (by rw[←e];exact hck);have hcq:kd es i≠q:=fun e=>by rw[e,hqd]at hd;cases hd
 have hbq:b≠q:=fun e=>by rw[e,hqd]at hes;cases hes
 have hns:=w.ic.not_self hd;obtain⟨es',e1,e2,e3,e4,e5⟩:=(p.ok w.ok).1;rw[hes]at e1;cases e1;have nb:(shadowAt f (.ent b i) q).nodes b=some (setE (2,es) i q):=by
  rw[I2];unfold shN cpN;simp only[hlk];split
  ·rw[aC _ _ (Ne.symm hcb),aD]
  ·rw[aD]
 have nq:(shadowAt f (.ent b i) q).nodes q=some d:=by
  rw[I2];unfold shN cpN;simp only;split
  ·rw[aC _ _ (Ne.symm hcq),aC _ _ (Ne.symm hbq),aD]
  ·rw[aC _ _ (Ne.symm hbq),aD]
 have nx:∀x,x≠b→x≠q→¬(x=kd es i∧cu f (kd es i)=1)→(shadowAt f (.ent b i) q).nodes x=f.nodes x:=fun x h1 h2 h3=>by
  rw[I2];unfold shN cpN;simp only;split
  ·rename_i hcu
   rw[aC _ _ (fun e=>h3 ⟨e,hcu⟩),aC _ _ h1,aC _ _ h2]
  ·rw[aC _ _ h1,aC _ _ h2]
 have hlive:∀{x:Nat} {d':Nd},f.nodes x=some d'→x≠q:=fun hx e=>by rw[e,hqd]at hx;cases hx
 have fr:=fun {x:Nat} {d':Nd} (hx:f.nodes x=some d')=>p.fr w.ic w.tl hes (nodes':=(shadowAt f (.ent b i) q).nodes) (fun x=>x=kd es i∧cu f (kd es i)=1) (fun x ⟨q1,q2⟩=>⟨by rw[q1];exact q2,by rw[q1];exact hck⟩) (fun x d hx hxb hxc=>by rw[nx x hxb (hlive hx) hxc];exact hx) hx;have hkg:∀j,((es.set i ((es.getD i e0).1,(es.getD i e0).2.1,(q:Int))).getD j e0).1=ky es j∧((es.set i ((es.getD i e0).1,(es.getD i e0).2.1,(q:Int))).getD j e0).2.1=(es.getD j e0).2.1∧kd (es.set i ((es.getD i e0).1,(es.getD i e0).2.1,(q:Int))) j=if j=i then q else kd es j:=fun j=>by
  unfold kd;rw[bA _ _ _ _ _ hi'];by_cases e:j=i
  ·subst e;simp[ky,ch]
  ·simp[e,ky]
 have hP:∀y∈b :: P,cu (shadowAt f (.ent b i) q) y=cu f y:=fun y hy=>by
  obtain⟨dy,hdy⟩:=p.live w.ic w.tl y hy;refine vY w.ic hL hg hd hqn hc (fun e=>?_) (fun hk=>?_) (hlive hdy)
  ·exact p.kid_off w.ic hes hck (e▸hy)
  ·exact(p.kid2_off w.ic hes hck hd hk).1 hy
 have hbn:(shadowAt f (.ent b i) q).nodes b=some (2,es.set i ((es.getD i e0).1,(es.getD i e0).2.1,(q:Int))):=nb;have hPn:∀y∈P,(shadowAt f (.ent b i) q).nodes y=f.nodes y:=fun y hy=>by
  obtain⟨dy,hdy⟩:=p.live w.ic w.tl y (List.mem_cons_of_mem _ hy);refine nx y (fun e=>?_) (hlive hdy) fun q'=>?_
  ·obtain⟨ht',hh⟩:=w.ic.ht
   have:=p.high hh y hy;rw[e]at this;omega
  ·exact p.kid_off w.ic hes hck (q'.1▸List.mem_cons_of_mem _ hy)
 have p':aN (shadowAt f (.ent b i) q) t H P b (h+1) lo hi:=p.mono (by unfold aB;rw[eG]) hP hPn;have hlen:(es.set i ((es.getD i e0).1,(es.getD i e0).2.1,(q:Int))).length=es.length:=by simp
 have hnxt:∀j,nxt (es.set i ((es.getD i e0).1,(es.getD i e0).2.1,(q:Int))) j hi=nxt es j hi:=fun j=>by
  unfold nxt;rw[hlen];unfold ky;rw[(hkg (j+1)).1];rfl
 have hkids:∀c∈kids d,∀h' lo' hi',Ok f.nodes h' c lo' hi'→Ok (shadowAt f (.ent b i) q).nodes h' c lo' hi'∧sz (shadowAt f (.ent b i) q).nodes c=sz f.nodes c:=fun c hc' h' lo' hi' hk=>by
  obtain⟨dc,hdc⟩:=w.ic.kid_live hd hc';exact fr hdc (p.kid2_off w.ic hes hck hd hc').1 (fun q'=>hns (q'.1▸hc')) hk
 refine⟨w.step p I1 (eG f b i q) hes (fun x=>x=kd es i∧cu f (kd es i)=1) (fun x ⟨q1,q2⟩=>⟨by rw[q1];exact q2,by rw[q1];exact hck⟩) (fun x d hx hxb hxc=>by rw[nx x hxb (hlive hx) hxc];exact hx) ?_ ?_,p',?_,nb,nq,I5,I4,I3,fun hr=>p.rt (by unfold aB;rw[eG]) hPn (fun h0 hP=>?_) hr⟩
 ·refine⟨_,hbn,⟨?_,?_,?_,by rw[hlen];exact e2.le5⟩,?_,?_,?_⟩
  ·intro a c hac hc'
   rw[hlen]at hc';unfold ky;rw[(hkg a).1,(hkg c).1];exact e2.srt a c hac hc'
  ·intro j hj;rw[hlen]at hj;unfold ky;rw[(hkg j).1];exact e2.lo j hj
  ·intro j hj;rw[hlen]at hj;unfold ky;rw[(hkg j).1];exact e2.hi j hj
  ·intro e;exact e3 (List.length_eq_zero_iff.1 (by rw[←hlen,e];rfl))
  ·intro j hj;rw[hlen]at hj;rw[(hkg j).2.1];exact e4 j hj
  ·intro j hj
   rw[hlen]at hj;rw[hnxt,(hkg j).2.2];unfold ky;rw[(hkg j).1];by_cases e:j=i
   ·subst e
    rw[if_pos rfl];refine⟨?_,Ok.copy hd nq (e5 j hj).2 hkids⟩;have:=(e5 j hj).1;unfold sz at this ⊢;rw[nq];rw[hd]at this;exact this
   ·rw[if_neg e]
    obtain⟨dj,hdj⟩:=w.ic.kid_live hes (aO hj);obtain⟨g1,g2⟩:=fr hdj (p.kid_off w.ic hes (aO hj)) (fun q'=>e (dW (w.ic.only q'.2 hes hck).2.1 hi' hj q'.1)) (e5 j hj).2;exact⟨by rw[g2];exact(e5 j hj).1,g1⟩
 ·intro hP'
  have:=(p.ok w.ok).2 hP'
  unfold sz at this ⊢;rw[hbn];rw[hes]at this;simp only[hlen]at *;exact this
 ·have hq':kd (es.set i ((es.getD i e0).1,(es.getD i e0).2.1,(q:Int))) i=q:=by rw[(hkg i).2.2,if_pos rfl]
  have:=aN.down p' hbn (i:=i) (by rw[hlen];exact hi') (by rw[hq'];exact I5)
  rw[hq',hnxt]at this;have hk':ky (es.set i ((es.getD i e0).1,(es.getD i e0).2.1,(q:Int))) i=ky es i:=(hkg i).1;rw[hk']at this;exact this
 ·rcases hr with hr | hr
  ·omega
  ·rcases p.top with⟨_,q',_⟩ | ⟨q',_⟩
   ·unfold sz at hr ⊢;rw[hbn];rw[←q',hes]at hr;simp only[hlen]at *;exact hr
   ·rw[hP]at q';cases q'
theorem Wk.shadowRoot{f:fZ}{t H:Nat}(w:Wk f t H){d:Nd}(hd:f.nodes (aB f t)=some d){q:Nat}(hq2:2≤q)(hqn:q<f.cur.length)(hc:cu f q=0):
  Wk (shadowAt f (.root t) q) t H∧aN (shadowAt f (.root t) q) t H [] q H none none∧aB (shadowAt f (.root t) q) t=q∧(shadowAt f (.root t) q).nodes q=some d∧(shadowAt f (.root t) q).com=f.com∧(shadowAt f (.root t) q).cur.length=f.cur.length∧(cD f t H→cD (shadowAt f (.root t) q) t H):=by
 obtain⟨I1,I2,I3,I4,I5⟩:=w.ic.shadow (L:=.root t) w.tl rfl hd hq2 hqn hc;have hqd:f.nodes q=none:=(w.ic.dom.dead q).2 hc;have hbq:aB f t≠q:=fun e=>by rw[e,hqd]at hd;cases hd
 have hr:aB (shadowAt f (.root t) q) t=q:=by
  unfold aB;rw[dI];simp[gD,w.tl]
 have hru:∀u,u≠t→aB (shadowAt f (.root t) q) u=aB f u:=fun u hu=>by
  unfold aB;rw[dI];simp only[gD,List.getElem?_set,if_neg (Ne.symm hu)]
 have hI2:(shadowAt f (.root t) q).nodes=if cu f (aB f t)=1 then upd (upd f.nodes q (some d)) (aB f t) none else upd f.nodes q (some d):=I2;have nq:(shadowAt f (.root t) q).nodes q=some d:=by
  rw[hI2];split
  ·rw[aC _ _ (Ne.symm hbq),aD]
  ·rw[aD]
 let U:Nat→Prop:=fun x=>(∃d,f.nodes x=some d)∧(cu f (aB f t)=1→x≠aB f t)
 have hUc:∀x d,U x→f.nodes x=some d→∀c∈kids d,U c:=fun x d' _ hx c hc'=>
  ⟨w.ic.kid_live hx hc',fun h1 e=>(w.ic.onlyRoot (aP w.tl) h1).2 x d' hx (by have:c=(f.roots.getD t (0,0)).2.toNat:=e;rw[←this];exact hc')⟩
 have hUe:∀x,U x→(shadowAt f (.root t) q).nodes x=f.nodes x:=fun x ⟨⟨d',hx⟩,h1⟩=>by
  have hxq:x≠q:=fun e=>by rw[e,hqd]at hx;cases hx
  rw[hI2];split
  ·rename_i hcu;rw[aC _ _ (h1 hcu),aC _ _ hxq]
  ·rw[aC _ _ hxq]
 have fr:=Ok.frame hUc hUe;refine⟨⟨I1,by rw[dI];simpa using w.tl,?_,fun u hu hut=>?_⟩,?_,hr,nq,I4,I3,fun hz=>hz.imp id fun hz=>by rw[hr];unfold sz at hz ⊢;rw[nq];rw[hd]at hz;exact hz⟩
 ·rw[hr]
  refine Ok.copy hd nq w.ok fun c hc' h' lo' hi' hk=>?_;have hUk:U c:=⟨w.ic.kid_live hd hc',fun _ e=>w.ic.not_self hd (e▸hc')⟩;exact⟨fr _ _ _ _ hUk hk,by unfold sz;rw[hUe c hUk]⟩
 ·rw[dI]at hu
  have hu:u<f.roots.length:=by simpa using hu
  obtain⟨h,h1,h2⟩:=w.oth u hu hut;have hUu:U (aB f u):=⟨w.ic.root_live (aP hu),fun h1=>nA w.ic w.tl hu hut h1⟩;refine⟨h,by rw[hru u hut];exact fr _ _ _ _ hUu h1,?_⟩;rcases h2 with h2 | h2
  ·exact .inl h2
  ·refine .inr ?_
   unfold sz at h2 ⊢;rw[hru u hut,hUe _ hUu];exact h2
 ·have:=aN.here (f:=shadowAt f (.root t) q) (t:=t) (H:=H) (by rw[hr];exact I5)
  rw[hr]at this;exact this
theorem aCQ{es:List E3}{i:Nat}(hi:i≤es.length)(e:E3)(j:Nat):ky (insE es i e) j=if j<i then ky es j else if j=i then e.1 else ky es (j-1):=by
 unfold ky;rw[jI _ _ _ _ hi];split
 ·rfl
 ·split<;>rfl
theorem aJJ{es:List E3}{i:Nat}(hi:i≤es.length)(e:E3)(j:Nat):kd (insE es i e) j=if j<i then kd es j else if j=i then ch e else kd es (j-1):=by
 unfold kd;rw[jI _ _ _ _ hi];split
 ·rfl
 ·split<;>rfl
theorem eH{es:List E3}{m j:Nat}(h:j<m):ky (es.take m) j=ky es j:=by unfold ky;rw[fV _ _ _ h]
theorem aCY{es:List E3}{m j:Nat}(h:j<m):kd (es.take m) j=kd es j:=by unfold kd;rw[fV _ _ _ h]
theorem gA{es:List E3}{m j:Nat}:ky (es.drop m) j=ky es (m+j):=by unfold ky;rw[eU]
theorem aDD{es:List E3}{m j:Nat}:kd (es.drop m) j=kd es (m+j):=by unfold kd;rw[eU]
theorem len_take'{es:List E3}{m:Nat}(h:m≤es.length):(es.take m).length=m:=by rw[List.length_take];omega
theorem cI{es:List E3}{i:Nat}(hi:OB)(h:i+1<es.length):nxt es i hi=some (ky es (i+1)):=by unfold nxt;rw[if_pos h]
theorem eN{es:List E3}{i:Nat}(hi:OB)(h:¬i+1<es.length):nxt es i hi=hi:=by unfold nxt;rw[if_neg h]
theorem sT{hi:OB}{a b:ByteArray}(h:kl a b=true)(hb:hiR hi b):hiR hi a:=by
 cases hi with
 | none=>trivial
 | some u=>exact kG h hb
theorem aHF{lo:OB}{a b:ByteArray}(h:kl a b=true)(ha:loR lo a):loR lo b:=by
 cases lo with
 | none=>trivial
 | some l=>exact gN ha (fH h)
theorem sF{es:List E3}(h:Srt es)(m:Nat)(hm:m≤es.length):Srt (es.take m):=fun i j hij hj=>by
 rw[len_take' hm]at hj;rw[eH (by omega),eH hj];exact h i j hij (by omega)
theorem zV{es:List E3}(h:Srt es)(m:Nat):Srt (es.drop m):=fun i j hij hj=>by
 rw[List.length_drop]at hj;rw[gA,gA];exact h _ _ (by omega) (by omega)
theorem eA.strict{es:List E3}{l:ByteArray}{hi:OB}(h:eA es (some l) hi){m:Nat}(h0:0<m)(hm:m<es.length):kl l (ky es m)=true:=
 lG (h.lo 0 (by omega)) (h.srt 0 m h0 hm)
theorem Ok.cutLow{nodes nodes':Nat→Option Nd}{h b:Nat}{lo hi:OB}{k:Int}{es:List E3}(hd:nodes b=some (k,es))(hk:Ok nodes h b lo hi){m q:Nat}(hm:0<m)(hm':m<es.length)(hq:nodes' q=some (k,es.take m))
  (hf:∀c∈kids (k,es),∀h' lo' hi',Ok nodes h' c lo' hi'→Ok nodes' h' c lo' hi'∧sz nodes' c=sz nodes c):Ok nodes' h q lo (some (ky es m)):=by
 have nr:∀{es:List E3},m<es.length→eA es lo hi→eA (es.take m) lo (some (ky es m)):=fun {es} hm' e=>by
  refine⟨sF e.srt m (by omega),fun j hj=>?_,fun j hj=>?_,?_⟩
  ·rw[len_take' (by omega)]at hj;rw[eH hj];exact e.lo j (by omega)
  ·rw[len_take' (by omega)]at hj;rw[eH hj];exact e.srt j m hj hm'
  ·rw[len_take' (by omega)];have:=e.le5;omega
 cases h with
 | zero=>
  obtain⟨es',e1,e2,e3⟩:=hk;rw[hd]at e1;cases e1;refine⟨_,hq,nr hm' e2,fun j hj=>?_⟩;rw[len_take' (by omega)]at hj;rw[fV _ _ _ hj];exact e3 j (by omega)
 | succ h=>
  obtain⟨es',e1,e2,e3,e4,e5⟩:=hk;rw[hd]at e1;cases e1;refine⟨_,hq,nr hm' e2,nY hm' hm,fun j hj=>?_,fun j hj=>?_⟩
  ·rw[len_take' (by omega)]at hj
   rw[fV _ _ _ hj];exact e4 j (by omega)
  ·rw[len_take' (by omega)]at hj
   obtain⟨g1,g2⟩:=hf _ (aO (show j<es.length by omega)) _ _ _ (e5 j (by omega)).2;rw[aCY hj,eH hj];refine⟨by rw[g2];exact(e5 j (by omega)).1,?_⟩;have:nxt (es.take m) j (some (ky es m))=nxt es j hi:=by
    rw[cI (es:=es) hi (by omega)];by_cases e:j+1<m
    ·rw[cI _ (by rw[len_take' (by omega)];exact e),eH e]
    ·rw[eN _ (by rw[len_take' (by omega)];exact e),show j+1=m from by omega]
   rw[this];exact g1
theorem Ok.cutHigh{nodes nodes':Nat→Option Nd}{h b:Nat}{lo hi:OB}{k:Int}{es:List E3}(hd:nodes b=some (k,es))(hk:Ok nodes h b lo hi){m q:Nat}(hm':m<es.length)(hq:nodes' q=some (k,es.drop m))
  (hf:∀c∈kids (k,es),∀h' lo' hi',Ok nodes h' c lo' hi'→Ok nodes' h' c lo' hi'∧sz nodes' c=sz nodes c):Ok nodes' h q (some (ky es m)) hi:=by
 have nr:∀{es:List E3},m<es.length→eA es lo hi→eA (es.drop m) (some (ky es m)) hi:=fun {es} hm' e=>by
  refine⟨zV e.srt m,fun j hj=>?_,fun j hj=>?_,?_⟩
  ·rw[List.length_drop]at hj;rw[gA]
   by_cases e0:j=0
   ·subst e0;exact eD _
   ·exact fH (e.srt m (m+j) (by omega) (by omega))
  ·rw[List.length_drop]at hj;rw[gA];exact e.hi _ (by omega)
  ·rw[List.length_drop];have:=e.le5;omega
 cases h with
 | zero=>
  obtain⟨es',e1,e2,e3⟩:=hk;rw[hd]at e1;cases e1;refine⟨_,hq,nr hm' e2,fun j hj=>?_⟩;rw[List.length_drop]at hj;rw[eU];exact e3 _ (by omega)
 | succ h=>
  obtain⟨es',e1,e2,e3,e4,e5⟩:=hk;rw[hd]at e1;cases e1;refine⟨_,hq,nr hm' e2,nJ hm',fun j hj=>?_,fun j hj=>?_⟩
  ·rw[List.length_drop]at hj
   rw[eU];exact e4 _ (by omega)
  ·rw[List.length_drop]at hj
   obtain⟨g1,g2⟩:=hf _ (aO (show m+j<es.length by omega)) _ _ _ (e5 (m+j) (by omega)).2;rw[aDD,gA];refine⟨by rw[g2];exact(e5 _ (by omega)).1,?_⟩;have:nxt (es.drop m) j hi=nxt es (m+j) hi:=by
    unfold nxt;rw[List.length_drop,gA];by_cases e:m+j+1<es.length
    ·rw[if_pos (by omega),if_pos e,show m+(j+1)=m+j+1 from by omega]
    ·rw[if_neg (by omega),if_neg e]
   rw[this];exact g1
theorem Wk.split{f:fZ}{t H:Nat}(w:Wk f t H){P:List Nat}{b h:Nat}{lo hi:OB}(p:aN f t H P b (h+1) lo hi){es:List E3}(hes:f.nodes b=some (2,es))(h5:es.length<5){i:Nat}(hi':i<es.length){k:Int}{ces:List E3}(hd:f.nodes (kd es i)=some (k,ces))(h1:cu f (kd es i)=1)
  {m q:Nat} (hm:2≤m) (hm':m+2≤ces.length) (hq2:2≤q) (hqn:q<f.cur.length) (hc:cu f q=0):
  let f':=splitF f b es i (kd es i) k ces m q (ky ces m)
  Wk f' t H∧aN f' t H P b (h+1) lo hi∧aN f' t H (b :: P) (kd es i) h (some (ky es i)) (some (ky ces m))∧aN f' t H (b :: P) q h (some (ky ces m)) (nxt es i hi)∧
   f'.nodes b=some (2,insE es (i+1) (ky ces m,.empty,(q:Int)))∧f'.nodes (kd es i)=some (k,ces.take m)∧f'.nodes q=some (k,ces.drop m)∧(cD f t H→cD f' t H):=by
 intro f';obtain⟨I1,I2⟩:=w.ic.split (key:=ky ces m) (m:=m) hes hi' (rfl:kd es i=_) hd (by omega) (by omega) hq2 hqn hc;have hqd:f.nodes q=none:=(w.ic.dom.dead q).2 hc;have hck:=aO hi';have hcb:kd es i≠b:=fun e=>w.ic.not_self hes (by rw[←e];exact hck);have hcq:kd es i≠q:=fun e=>by rw[e,hqd]at hd;cases hd
 have hbq:b≠q:=fun e=>by rw[e,hqd]at hes;cases hes
 have hns:=w.ic.not_self hd;obtain⟨es',e1,e2,e3,e4,e5⟩:=(p.ok w.ok).1;rw[hes]at e1;cases e1;have nb:f'.nodes b=some (2,insE es (i+1) (ky ces m,.empty,(q:Int))):=by rw[I2,aD]
 have nq:f'.nodes q=some (k,ces.drop m):=by rw[I2,aC _ _ (Ne.symm hbq),aD]
 have nc:f'.nodes (kd es i)=some (k,ces.take m):=by rw[I2,aC _ _ hcb,aC _ _ hcq,aD]
 have nx:∀x,x≠b→x≠q→x≠kd es i→f'.nodes x=f.nodes x:=fun x h1 h2 h3=>by rw[I2,aC _ _ h1,aC _ _ h2,aC _ _ h3]
 have hlive:∀{x:Nat} {d':Nd},f.nodes x=some d'→x≠q:=fun hx e=>by rw[e,hqd]at hx;cases hx
 have hCc:∀x,x=kd es i→cu f x=1∧x∈kids (2,es):=fun x q1=>by rw[q1];exact⟨h1,hck⟩
 have hNn:∀x d,f.nodes x=some d→x≠b→¬x=kd es i→f'.nodes x=some d:=fun x d hx hxb hxc=>by rw[nx x hxb (hlive hx) hxc];exact hx
 have fr:=fun {x:Nat} {d':Nd} (hx:f.nodes x=some d')=>p.fr w.ic w.tl hes (nodes':=f'.nodes) (fun x=>x=kd es i) hCc hNn hx;have hcn:∀x,cu f' x=if q=x then 1 else cu f x:=fun x=>dT (f:=setN f (kd es i) (k,ces.take m)) (k,ces.drop m) hqn x;have hP:∀y∈b :: P,cu f' y=cu f y:=fun y hy=>by
  obtain⟨dy,hdy⟩:=p.live w.ic w.tl y hy;rw[hcn,if_neg (Ne.symm (hlive hdy))]
 have hkids:∀c∈kids (k,ces),∀h' lo' hi',Ok f.nodes h' c lo' hi'→Ok f'.nodes h' c lo' hi'∧sz f'.nodes c=sz f.nodes c:=fun c hc' h' lo' hi' hk=>by
  obtain⟨dc,hdc⟩:=w.ic.kid_live hd hc';exact fr hdc (p.kid2_off w.ic hes hck hd hc').1 (fun q'=>hns (q'▸hc')) hk
 have hPn:∀y∈P,f'.nodes y=f.nodes y:=fun y hy=>by
  obtain⟨dy,hdy⟩:=p.live w.ic w.tl y (List.mem_cons_of_mem _ hy);refine nx y (fun e=>?_) (hlive hdy) fun q'=>?_
  ·obtain⟨ht',hh⟩:=w.ic.ht
   have:=p.high hh y hy;rw[e]at this;omega
  ·exact p.kid_off w.ic hes hck (q'▸List.mem_cons_of_mem _ hy)
 have p':aN f' t H P b (h+1) lo hi:=p.mono rfl hP hPn;have hcr:eA ces (some (ky es i)) (nxt es i hi):=by
  have:=(e5 i hi').2
  cases h with
  | zero=>obtain⟨_,a1,a2,_⟩:=this;rw[hd]at a1;cases a1;exact a2
  | succ h=>obtain⟨_,a1,a2,_⟩:=this;rw[hd]at a1;cases a1;exact a2
 have hl1:kl (ky es i) (ky ces m)=true:=hcr.strict (by omega) (by omega);have hl2:hiR (nxt es i hi) (ky ces m):=hcr.hi m (by omega);have hl3:i+1<es.length→kl (ky ces m) (ky es (i+1))=true:=fun hlt=>by rw[cI _ hlt]at hl2;exact hl2
 have okc:Ok f'.nodes h (kd es i) (some (ky es i)) (some (ky ces m)):=Ok.cutLow hd (e5 i hi').2 (by omega) (by omega) nc hkids;have okq:Ok f'.nodes h q (some (ky ces m)) (nxt es i hi):=Ok.cutHigh hd (e5 i hi').2 (by omega) nq hkids;have hky:=aCQ (es:=es) (i:=i+1) (by omega) (ky ces m,.empty,(q:Int));have hkd:=aJJ (es:=es) (i:=i+1) (by omega) (ky ces m,.empty,(q:Int));have hchq:ch (ky ces m,.empty,(q:Int))=q:=by simp[ch]
 rw[hchq]at hkd;have hlen:=iO es (i+1) (ky ces m,.empty,(q:Int));have nxs:∀j,j<i→nxt (insE es (i+1) (ky ces m,.empty,(q:Int))) j hi=nxt es j hi:=fun j hj=>by
  rw[cI _ (by rw[hlen];omega),cI _ (by omega),hky,if_pos (by omega)]
 have nxi:nxt (insE es (i+1) (ky ces m,.empty,(q:Int))) i hi=some (ky ces m):=by
  rw[cI _ (by rw[hlen];omega),hky,if_neg (by omega),if_pos rfl]
 have nxq:∀j,i<j→nxt (insE es (i+1) (ky ces m,.empty,(q:Int))) j hi=nxt es (j-1) hi:=fun j hj=>by
  by_cases e:j<es.length
  ·rw[cI _ (by rw[hlen];omega),cI _ (by omega),hky,if_neg (by omega),if_neg (by omega),show j+1-1=j-1+1 from by omega]
  ·rw[eN _ (by rw[hlen];omega),eN _ (by omega)]
 have hsc:sz f'.nodes (kd es i)=m:=by unfold sz;rw[nc];exact len_take' (by omega)
 have hsq:sz f'.nodes q=ces.length-m:=by unfold sz;rw[nq];exact List.length_drop
 refine⟨w.step p I1 rfl hes (fun x=>x=kd es i) hCc hNn ?_ ?_,p',?_,?_,nb,nc,nq,fun hr=>p.rt rfl hPn (fun h0 hP=>?_) hr⟩
 ·refine⟨_,nb,⟨?_,?_,?_,by rw[hlen];omega⟩,by intro e;rw[e]at hlen;simp at hlen,?_,?_⟩
  ·intro a c hac hc'
   rw[hlen]at hc';rw[hky,hky];by_cases a1:a<i+1
   ·rw[if_pos a1]
    by_cases c1:c<i+1
    ·rw[if_pos c1];exact e2.srt a c hac (by omega)
    ·rw[if_neg c1]
     have hai:kl (ky es a) (ky ces m)=true:=by
      by_cases e:a=i
      ·rw[e];exact hl1
      ·exact kG (e2.srt a i (by omega) hi') hl1
     by_cases c2:c=i+1
     ·rw[if_pos c2];exact hai
     ·rw[if_neg c2];exact e2.srt a (c-1) (by omega) (by omega)
   ·rw[if_neg a1,if_neg (show ¬c<i+1 by omega),if_neg (show ¬c=i+1 by omega)]
    by_cases a2:a=i+1
    ·rw[if_pos a2]
     have:=hl3 (by omega)
     by_cases e:c-1=i+1
     ·rw[e];exact this
     ·exact kG this (e2.srt (i+1) (c-1) (by omega) (by omega))
    ·rw[if_neg a2];exact e2.srt (a-1) (c-1) (by omega) (by omega)
  ·intro j hj
   rw[hlen]at hj;rw[hky];by_cases a1:j<i+1
   ·rw[if_pos a1];exact e2.lo j (by omega)
   ·rw[if_neg a1]
    by_cases a2:j=i+1
    ·rw[if_pos a2];exact aHF hl1 (e2.lo i hi')
    ·rw[if_neg a2];exact e2.lo _ (by omega)
  ·intro j hj
   rw[hlen]at hj;rw[hky];by_cases a1:j<i+1
   ·rw[if_pos a1];exact e2.hi j (by omega)
   ·rw[if_neg a1]
    by_cases a2:j=i+1
    ·rw[if_pos a2]
     by_cases e:i+1<es.length
     ·exact sT (hl3 e) (e2.hi _ e)
     ·rw[eN _ e]at hl2;exact hl2
    ·rw[if_neg a2];exact e2.hi _ (by omega)
  ·intro j hj
   rw[hlen]at hj;rw[jI _ _ _ _ (by omega)];split
   ·exact e4 j (by omega)
   ·split
    ·rfl
    ·exact e4 _ (by omega)
  ·intro j hj
   rw[hlen]at hj;have other:∀j',j'<es.length→j'≠i→2≤sz f'.nodes (kd es j')∧Ok f'.nodes h (kd es j') (some (ky es j')) (nxt es j' hi):=fun j' hj' hne=>by
    obtain⟨dj,hdj⟩:=w.ic.kid_live hes (aO hj');obtain⟨g1,g2⟩:=fr hdj (p.kid_off w.ic hes (aO hj')) (fun q'=>hne (dW (w.ic.only h1 hes hck).2.1 hi' hj' q')) (e5 j' hj').2;exact⟨by rw[g2];exact(e5 j' hj').1,g1⟩
   rw[hkd,hky];by_cases a1:j<i+1
   ·rw[if_pos a1,if_pos a1]
    by_cases e:j=i
    ·subst e;rw[nxi];exact⟨by rw[hsc];exact hm,okc⟩
    ·rw[nxs j (by omega)];exact other j (by omega) e
   ·rw[if_neg a1,if_neg a1]
    by_cases a2:j=i+1
    ·rw[if_pos a2,if_pos a2,a2,nxq (i+1) (by omega)]
     exact⟨by rw[hsq];omega,okq⟩
    ·rw[if_neg a2,if_neg a2,nxq j (by omega)];exact other _ (by omega) (by omega)
 ·intro hP'
  unfold sz;rw[nb];simp only[hlen];have:=(p.ok w.ok).2 hP';unfold sz at this;rw[hes]at this;simp only at this;omega
 ·have:=aN.down p' nb (i:=i) (by rw[hlen];omega) (by rw[hkd,if_pos (by omega),hcn,if_neg (Ne.symm hcq)];exact h1)
  rw[hkd,if_pos (by omega),hky,if_pos (by omega),nxi]at this;exact this
 ·have:=aN.down p' nb (i:=i+1) (by rw[hlen];omega) (by rw[hkd,if_neg (by omega),if_pos rfl,hcn,if_pos rfl])
  rw[hkd,if_neg (by omega),if_pos rfl,hky,if_neg (by omega),if_pos rfl,nxq _ (by omega)]at this;exact this
 ·rcases hr with hr | hr
  ·omega
  ·rcases p.top with⟨_,q',_⟩ | ⟨q',_⟩
   ·unfold sz at hr ⊢;rw[nb];rw[←q',hes]at hr;simp only[hlen]at *;omega
   ·rw[hP]at q';cases q'
