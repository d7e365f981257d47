import Derived.Test.YtaahkgkdpnnhhaaGreatFo26
set_option linter.all false
namespace Go.Proofs.YtaahkgkdpnnhhaaGreat.Fo
theorem aGF{f:fZ}(hic:IC f)(hok:∀t,t<f.roots.length→∃h,Ok f.nodes h (aB f t) none none){b:Nat}{d:Nd}(hd:f.nodes b=some d):∃k lo hi,Ok f.nodes k b lo hi:=by
 obtain⟨ht,hh⟩:=hic.ht;obtain⟨M,hM⟩:=rS ht f.cur.length;have key:∀(m:Nat) (b:Nat) (d:Nd),M-ht b≤m→f.nodes b=some d→∃k lo hi,Ok f.nodes k b lo hi:=by
  intro m;induction m with
  | zero=>
   intro b d hm hd;have hb:=hic.lt hd;have hp:=hic.cu_pos hd;rw[hic.names hb]at hp;by_cases hr:0<rc f.roots b
   ·obtain⟨r,hr1,hr2⟩:=List.mem_map.1 (List.count_pos_iff.1 hr)
    obtain⟨t,ht1,ht2⟩:=List.getElem_of_mem hr1;obtain⟨k,hk⟩:=hok t ht1;refine⟨k,none,none,?_⟩;have:aB f t=b:=by unfold aB;rw[gD,gE ht1,ht2];exact hr2
    rw[←this];exact hk
   ·have hdg:0<deg f.nodes f.cur.length b:=by omega
    obtain⟨x,hx,hc⟩:=jM hdg;cases hnx:f.nodes x with
    | none=>simp[hnx,bY]at hc
    | some dx=>
     rw[hnx]at hc;have hbk:b∈kids dx:=List.count_pos_iff.1 hc;rcases hh x dx hnx with⟨q,_⟩ | ⟨_,q⟩
     ·simp[kids,q]at hbk
     ·have:=q b hbk;have:=hM x hx;omega
  | succ m ih=>
   intro b d hm hd;have hb:=hic.lt hd;have hp:=hic.cu_pos hd;rw[hic.names hb]at hp;by_cases hr:0<rc f.roots b
   ·obtain⟨r,hr1,hr2⟩:=List.mem_map.1 (List.count_pos_iff.1 hr)
    obtain⟨t,ht1,ht2⟩:=List.getElem_of_mem hr1;obtain⟨k,hk⟩:=hok t ht1;refine⟨k,none,none,?_⟩;have:aB f t=b:=by unfold aB;rw[gD,gE ht1,ht2];exact hr2
    rw[←this];exact hk
   ·have hdg:0<deg f.nodes f.cur.length b:=by omega
    obtain⟨x,hx,hc⟩:=jM hdg;cases hnx:f.nodes x with
    | none=>simp[hnx,bY]at hc
    | some dx=>
     rw[hnx]at hc;have hbk:b∈kids dx:=List.count_pos_iff.1 hc;rcases hh x dx hnx with⟨q,_⟩ | ⟨q2,q⟩
     ·simp[kids,q]at hbk
     ·have h1:=q b hbk
      have h2:=hM x hx;obtain⟨k,lo,hi,hk⟩:=ih x dx (by omega) hnx;cases k with
      | zero=>obtain⟨es,he,_⟩:=hk;rw[hnx]at he;cases he;simp at q2
      | succ k=>
       obtain⟨es,he,_,_,_,h5⟩:=hk;rw[hnx]at he;cases he;rw[kids,if_pos rfl]at hbk;obtain⟨e,he1,he2⟩:=List.mem_map.1 hbk;obtain⟨j,hj,hje⟩:=dP he1;have:=(h5 j hj).2;have hkd:kd es j=b:=by unfold kd;rw[hje];exact he2
       rw[hkd]at this;exact⟨k,_,_,this⟩
 exact key _ b d (nR _) hd
theorem Wk.ent{f:fZ}{t H:Nat}(w:Wk f t H){b:Nat}{d:Nd}(hd:f.nodes b=some d):d.2.length≤5:=by
 obtain⟨k,lo,hi,hk⟩:=aGF w.ic (fun u hu=>by
  by_cases e:u=t
  ·subst e;exact⟨H,w.ok⟩
  ·obtain⟨h,h1,_⟩:=w.oth u hu e;exact⟨h,h1⟩) hd
 obtain⟨d',h1,_,h2,_⟩:=hk.sz_pos;rw[hd]at h1;cases h1;exact h2
theorem IC.counts{f:fZ}(h:IC f)(h16:f.roots.length≤16)(he:∀b d,f.nodes b=some d→d.2.length≤10)(x:Nat):cu f x≤1000000:=by
 by_cases hx:x<f.cur.length
 ·rw[h.names hx]
  have h1:rc f.roots x≤16:=by
   have:=List.count_le_length (a:=x) (l:=f.roots.map fun r=>r.2.toNat)
   unfold rc;simp at *;omega
  have h2:deg f.nodes f.cur.length x≤f.cur.length*10:=nN fun y hy=>by
   cases hny:f.nodes y with
   | none=>simp[bY]
   | some d=>
    have:=he y d hny
    have h3:=List.count_le_length (a:=x) (l:=kids d);have h4:(kids d).length≤d.2.length:=by unfold kids;split<;>simp
    simp only[bY];omega
  have:=h.n512
  omega
 ·rw[wM (by omega)];omega
def VL(es:List E3):Prop:=∀e∈es,e.2.2≠0→e.2.1=ByteArray.empty
def VE(f:fZ):Prop:=∀b d,f.nodes b=some d→VL d.2
theorem VL.nil:VL []:=fun e h=>by cases h
theorem VL.get{es:List E3}(h:VL es){i:Nat}(hi:i<es.length)(h0:(es.getD i e0).2.2≠0):(es.getD i e0).2.1=ByteArray.empty:=h _ (oO hi) h0
theorem VL.app{a b:List E3}(ha:VL a)(hb:VL b):VL (a++b):=fun e h=>by
 rcases List.mem_append.1 h with q | q
 ·exact ha e q
 ·exact hb e q
theorem VL.take{a:List E3}(ha:VL a)(n:Nat):VL (a.take n):=fun e h=>ha e (List.mem_of_mem_take h)
theorem VL.drop{a:List E3}(ha:VL a)(n:Nat):VL (a.drop n):=fun e h=>ha e (List.mem_of_mem_drop h)
theorem VL.one{e:E3}(h:e.2.2≠0→e.2.1=ByteArray.empty):VL [e]:=fun x hx=>by simp only[List.mem_singleton]at hx;subst hx;exact h
theorem VL.insE{a:List E3}(ha:VL a)(i:Nat){e:E3}(h:e.2.2≠0→e.2.1=ByteArray.empty):VL (insE a i e):=by
 unfold Fo.insE;exact(ha.take i).app fun x hx=>by
  rcases List.mem_cons.1 hx with q | q
  ·subst q;exact h
  ·exact ha.drop i x q
theorem VL.delE{a:List E3}(ha:VL a)(i:Nat):VL (delE a i):=(ha.take i).app (ha.drop (i+1))
theorem VL.set{a:List E3}(ha:VL a)(i:Nat){e:E3}(h:e.2.2≠0→e.2.1=ByteArray.empty):VL (a.set i e):=fun x hx=>by
 rcases List.mem_or_eq_of_mem_set hx with q | q
 ·exact ha x q
 ·subst q;exact h
theorem VE.look{f:fZ}(h:VE f)(b:Nat):VL (look f b).2:=by
 unfold Fo.look;cases e:f.nodes b with
 | none=>exact VL.nil
 | some d=>exact h b d e
theorem VE.upd{f g:fZ}(h:VE f){b:Nat}{d:Nd}(hd:VL d.2)(hn:∀x d',g.nodes x=some d'→f.nodes x=some d'∨d'=d):VE g:=fun x d' hx=>by
 rcases hn x d' hx with q | q
 ·exact h x d' q
 ·rw[q];exact hd
theorem VE.sub{f g:fZ}(h:VE f)(hn:∀x d',g.nodes x=some d'→f.nodes x=some d'):VE g:=fun x d' hx=>h x d' (hn x d' hx)
theorem VE.setN{f:fZ}(h:VE f)(b:Nat){d:Nd}(hd:VL d.2):VE (setN f b d):=h.upd (b:=b) hd fun x d' hx=>by
 have hx':Fo.upd f.nodes b (some d) x=some d':=hx;by_cases e:x=b
 ·rw[e,aD]at hx';cases hx';exact .inr rfl
 ·rw[aC _ _ e]at hx';exact .inl hx'
theorem VE.takeAt{f:fZ}(h:VE f)(b:Nat){d:Nd}(hd:VL d.2):VE (takeAt f b d):=VE.setN (f:=f) h b hd
theorem VE.freeB{f:fZ}(h:VE f)(b:Nat):VE (freeB f b):=h.sub fun x d' hx=>by
 have hx':Fo.upd f.nodes b none x=some d':=hx;by_cases e:x=b
 ·rw[e,aD]at hx';cases hx'
 ·rw[aC _ _ e]at hx';exact hx'
theorem VE.letGo{f:fZ}(h:VE f)(b:Nat):VE (letGo f b):=by
 unfold Fo.letGo;split
 ·exact h.freeB b
 ·exact h
theorem VL.setE{d:Nd}(h:VL d.2)(i q:Nat)(hc:(d.2.getD i e0).2.2≠0∨(d.2.getD i e0).2.1=ByteArray.empty):VL (setE d i q).2:=by
 unfold Fo.setE;by_cases hi:i<d.2.length
 ·refine h.set i fun _=>?_
  rcases hc with hc | hc
  ·exact h.get hi hc
  ·exact hc
 ·show VL (d.2.set i _)
  rw[List.set_eq_of_length_le (by omega)];exact h
theorem VE.setL{f:fZ}(h:VE f)(L:Loc)(q:Nat)(hc:∀b i,L=.ent b i→((Fo.look f b).2.getD i e0).2.2≠0):VE (setL f L q):=by
 cases L with
 | inl t=>exact h.sub fun _ _ q=>q
 | inr bi=>obtain⟨b,i⟩:=bi;exact h.setN b ((h.look b).setE i q (.inl (hc b i rfl)))
theorem VE.shadowAt{f:fZ}(h:VE f)(L:Loc)(q:Nat)(hc:∀b i,L=.ent b i→b≠q∧((Fo.look f b).2.getD i e0).2.2≠0):VE (shadowAt f L q):=by
 unfold Fo.shadowAt;refine VE.letGo (VE.setL (h.takeAt q (h.look _)) L q fun b i e=>?_) _;obtain⟨h1,h2⟩:=hc b i e;have:Fo.look (Fo.takeAt f q (Fo.look f (bJ f L))) b=Fo.look f b:=by
  unfold Fo.look;show(Fo.upd f.nodes q _ b).getD _=_
  rw[aC _ _ h1]
 rw[this];exact h2
theorem VL.lowK{es:List E3}(h:VL es)(key:ByteArray):VL (lowK es key):=by
 unfold Fo.lowK;split
 ·by_cases hn:0<es.length
  ·exact h.set 0 fun q=>h.get hn q
  ·rw[List.set_eq_of_length_le (by omega)];exact h
 ·exact h
theorem VL.putE{es:List E3}(h:VL es)(key val:ByteArray)(h0:∀i,i<es.length→(es.getD i e0).2.2=0):VL (putE es key val):=by
 unfold Fo.putE;split
 ·rename_i hk
  have:=((dF es key).1 hk).1
  exact h.set _ fun q=>absurd (h0 _ this) q
 ·exact h.insE _ fun q=>absurd rfl q
theorem VE.inner{f:fZ}(h:VE f)(hI:IC f){b:Nat}{es:List E3}(hd:f.nodes b=some (2,es)){i:Nat}(hi:i<es.length):es.getD i e0=(ky es i,.empty,(kd es i:Int))∧(es.getD i e0).2.2≠0:=by
 have hk:kd es i∈kids (2,es):=aO hi;obtain⟨d',hd'⟩:=hI.kid_live hd hk;have h2:=hI.ge2 hd';have hp:=hI.child_pos hd hi;have hc:(es.getD i e0).2.2=(kd es i:Int):=by unfold kd ch;omega
 have h0:(es.getD i e0).2.2≠0:=by omega
 refine⟨?_,h0⟩;have:=VL.get (h b _ hd) hi h0;rw[←hc];have e1:(es.getD i e0).2.1=ByteArray.empty:=this;rw[←e1];rfl
theorem rV{es:List E3}{i:Nat}{e:E3}(hi:i<es.length)(h:es.getD i e0=e):es.set i e=es:=by
 refine List.ext_getElem? fun j=>?_;rw[List.getElem?_set];by_cases q:i=j
 ·subst q
  rw[if_pos rfl,if_pos hi,←h,gD,gE hi];rfl
 ·rw[if_neg q]
theorem tK{f:fZ}(hI:IC f)(hV:VE f){b i:Nat}{es:List E3}(hes:f.nodes b=some (2,es))(hi:i<es.length){d:Nd}(hd:f.nodes (kd es i)=some d):
  (own f (kd es i)∧shadow f (.ent b i)=some (f,kd es i)∧es.set i (ky es i,.empty,(kd es i:Int))=es) ∨
  (¬own f (kd es i)∧aF f=0∧shadow f (.ent b i)=none) ∨
  (¬own f (kd es i)∧aF f≠0∧∃g,shadow f (.ent b i)=some (g,aF f)∧g.roots=f.roots∧aW f g∧∀x d',g.nodes x=some d'→(setN (setN f (aF f) d) b (2,es.set i (ky es i,.empty,(aF f:Int)))).nodes x=some d'):=by
 have hg:bJ f (.ent b i)=kd es i:=by simp only[bJ,aE hes];rfl
 obtain⟨v1,v2⟩:=hV.inner hI hes hi;by_cases ho:own f (kd es i)
 ·refine .inl ⟨ho,?_,rV hi v1⟩
  unfold shadow;rw[hg,if_pos ho]
 ·by_cases hl:aF f=0
  ·refine .inr (.inl ⟨ho,hl,?_⟩)
   unfold shadow;rw[hg,if_neg ho,if_pos hl]
  ·refine .inr (.inr ⟨ho,hl,shadowAt f (.ent b i) (aF f),?_,eG f b i _,aW.shadowAt f _ _,fun x d' hx=>?_⟩)
   ·unfold shadow;rw[hg,if_neg ho,if_neg hl]
   ·obtain⟨l1,l2,l3,l4⟩:=aQ hl
    have hbq:b≠aF f:=fun e=>by have:=hI.cu_pos hes;rw[e]at this;omega
    have hsub:(setL (takeAt f (aF f) (look f (kd es i))) (.ent b i) (aF f)).nodes x=some d':=by
     unfold shadowAt at hx;rw[hg]at hx;rw[cN]at hx;split at hx
     ·by_cases e:x=kd es i
      ·rw[e,aD]at hx;cases hx
      ·rw[aC _ _ e]at hx;exact hx
     ·exact hx
    have hlk:look (takeAt f (aF f) (look f (kd es i))) b=(2,es):=by
     unfold look;show(upd f.nodes (aF f) _ b).getD _=_
     rw[aC _ _ hbq,hes];rfl
    have hse:setE (2,es) i (aF f)=(2,es.set i (ky es i,.empty,(aF f:Int))):=by
     unfold setE;rw[v1]
    have:(setL (takeAt f (aF f) (look f (kd es i))) (.ent b i) (aF f))=setN (takeAt f (aF f) (look f (kd es i))) b (setE (look (takeAt f (aF f) (look f (kd es i))) b) i (aF f)):=rfl
    rw[this,hlk,hse,aE hd]at hsub;exact hsub
theorem qO{f:fZ}(hI:IC f){t:Nat}(ht:t<f.roots.length){d:Nd}(hd:f.nodes (aB f t)=some d):
  (own f (aB f t)∧shadow f (.root t)=some (f,aB f t)∧f.roots.set t ((f.roots.getD t (0,0)).1,(aB f t:Int))=f.roots) ∨
  (¬own f (aB f t)∧aF f=0∧shadow f (.root t)=none) ∨
  (¬own f (aB f t)∧aF f≠0∧∃g,shadow f (.root t)=some (g,aF f)∧g.roots=f.roots.set t ((f.roots.getD t (0,0)).1,(aF f:Int))∧aW f g∧∀x d',g.nodes x=some d'→(setN f (aF f) d).nodes x=some d'):=by
 have hg:bJ f (.root t)=aB f t:=rfl;by_cases ho:own f (aB f t)
 ·refine .inl ⟨ho,?_,?_⟩
  ·unfold shadow;rw[hg,if_pos ho]
  ·have h0:0≤(f.roots.getD t (0,0)).2:=(hI.rb _ (aP ht)).1
   have:((f.roots.getD t (0,0)).1,(aB f t:Int))=f.roots.getD t (0,0):=by
    unfold aB;rw[Int.toNat_of_nonneg h0]
   rw[this];refine List.ext_getElem? fun j=>?_;rw[List.getElem?_set];by_cases q:t=j
   ·subst q
    rw[if_pos rfl,if_pos ht,gD,gE ht];rfl
   ·rw[if_neg q]
 ·by_cases hl:aF f=0
  ·refine .inr (.inl ⟨ho,hl,?_⟩)
   unfold shadow;rw[hg,if_neg ho,if_pos hl]
  ·refine .inr (.inr ⟨ho,hl,shadowAt f (.root t) (aF f),?_,dI f t _,aW.shadowAt f _ _,fun x d' hx=>?_⟩)
   ·unfold shadow;rw[hg,if_neg ho,if_neg hl]
   ·have hsub:(setL (takeAt f (aF f) (look f (aB f t))) (.root t) (aF f)).nodes x=some d':=by
     unfold shadowAt at hx;rw[hg]at hx;rw[cN]at hx;split at hx
     ·by_cases e:x=aB f t
      ·rw[e,aD]at hx;cases hx
      ·rw[aC _ _ e]at hx;exact hx
     ·exact hx
    have:(setL (takeAt f (aF f) (look f (aB f t))) (.root t) (aF f)).nodes=(setN f (aF f) (look f (aB f t))).nodes:=rfl
    rw[this,aE hd]at hsub;exact hsub
theorem VE.shadow_ent{f:fZ}(hV:VE f)(hI:IC f){b i:Nat}{es:List E3}(hes:f.nodes b=some (2,es))(hi:i<es.length){g:fZ}{c:Nat}(hs:shadow f (.ent b i)=some (g,c)):VE g:=by
 have hg:bJ f (.ent b i)=kd es i:=by simp only[bJ,aE hes];rfl
 unfold shadow at hs;rw[hg]at hs;by_cases ho:own f (kd es i)
 ·rw[if_pos ho]at hs;cases hs;exact hV
 ·rw[if_neg ho]at hs
  by_cases hl:aF f=0
  ·rw[if_pos hl]at hs;cases hs
  ·rw[if_neg hl]at hs
   cases hs
   obtain⟨l1,l2,l3,l4⟩:=aQ hl;refine hV.shadowAt _ _ fun b' i' e=>?_;cases e;refine⟨fun e=>by have:=hI.cu_pos hes;rw[e]at this;omega,?_⟩;rw[aE hes];exact(hV.inner hI hes hi).2
theorem VE.shadow_root{f:fZ}(hV:VE f){t:Nat}{g:fZ}{c:Nat}(hs:shadow f (.root t)=some (g,c)):VE g:=by
 unfold shadow at hs;by_cases ho:own f (bJ f (.root t))
 ·rw[if_pos ho]at hs;cases hs;exact hV
 ·rw[if_neg ho]at hs
  by_cases hl:aF f=0
  ·rw[if_pos hl]at hs;cases hs
  ·rw[if_neg hl]at hs
   cases hs
   exact hV.shadowAt _ _ fun b' i' e=>by cases e
theorem VE.splitF{f:fZ}(hV:VE f)(p:Nat){pes:List E3}(hp:VL pes)(a c:Nat)(k:Int){ces:List E3}(hc:VL ces)(m q:Nat)(key:ByteArray):VE (splitF f p pes a c k ces m q key):=
 ((hV.setN c (hc.take m)).takeAt q (hc.drop m)).setN p (hp.insE _ fun _=>rfl)
theorem VE.growF{f:fZ}(hV:VE f)(t r:Nat)(k:Int){es:List E3}(he:VL es)(m q top:Nat)(k0 k1:ByteArray):VE (growF f t r k es m q top k0 k1):=by
 refine VE.setL (VE.takeAt (VE.takeAt (hV.setN r (he.take m)) q (he.drop m)) top ?_) (.root t) top fun b i e=>by cases e
 exact(VL.one (e:=(k0,.empty,(r:Int))) fun _=>rfl).app (VL.one (e:=(k1,.empty,(q:Int))) fun _=>rfl)
theorem pL{f:fZ}{b:Nat}{es:List E3}(hes:f.nodes b=some (2,es))(key:ByteArray):stepDown f b key=match shadow (setN f b (2,lowK es key)) (.ent b (bK (lowK es key) key))with
  | none=>none
  | some (g,c)=>if(look g c).2.length=5 then if aF g=0 then none else some (splitF g b (look g b).2 (bK (lowK es key) key) c (look g c).1 (look g c).2 3 (aF g) (ky (look g c).2 3),if kl key (ky (look g c).2 3)=true then c else aF g)else some (g,c):=by
 unfold stepDown;rw[aE hes];rfl
theorem dB{f:fZ}(hI:IC f)(hV:VE f){b i:Nat}{es:List E3}(hes:f.nodes b=some (2,es))(hi:i<es.length){d:Nd}(hd:f.nodes (kd es i)=some d){g:fZ}{c:Nat}(hs:shadow f (.ent b i)=some (g,c)):
  g.nodes c=some d∧c≠b∧(∀x,x≠c→x≠b→x≠kd es i→g.nodes x=f.nodes x)∧(∀x d',f.nodes x=some d'→x≠kd es i→x≠c)∧g.nodes b=some (2,es.set i (ky es i,.empty,(c:Int)))∧c<f.cur.length:=by
 have hg:bJ f (.ent b i)=kd es i:=by simp only[bJ,aE hes];rfl
 have hbk:b≠kd es i:=fun e=>hI.not_self hes (by rw[e];exact aO hi);obtain⟨v1,v2⟩:=hV.inner hI hes hi;unfold shadow at hs;rw[hg]at hs;by_cases ho:own f (kd es i)
 ·rw[if_pos ho]at hs;cases hs
  exact⟨hd,hbk.symm,fun _ _ _ _=>rfl,fun _ _ _ q=>q,by rw[rV hi v1];exact hes,hI.lt hd⟩
 ·rw[if_neg ho]at hs
  by_cases hl:aF f=0
  ·rw[if_pos hl]at hs;cases hs
  ·rw[if_neg hl]at hs
   cases hs
   obtain⟨l1,l2,l3,l4⟩:=aQ hl;have live:∀x d',f.nodes x=some d'→x≠aF f:=fun x d' hx e=>by have:=hI.cu_pos hx;rw[e]at this;omega
   have hbq:=live b _ hes;have hkq:=live _ _ hd;have hlk:look (takeAt f (aF f) (look f (kd es i))) b=(2,es):=by
    unfold look;show(upd f.nodes (aF f) _ b).getD _=_
    rw[aC _ _ hbq,hes];rfl
   have hse:setE (2,es) i (aF f)=(2,es.set i (ky es i,.empty,(aF f:Int))):=by
    unfold setE;rw[v1]
   have hN:∀x,x≠kd es i→(shadowAt f (.ent b i) (aF f)).nodes x=upd (upd f.nodes (aF f) (some d)) b (some (2,es.set i (ky es i,.empty,(aF f:Int)))) x:=fun x hx=>by
    unfold shadowAt;rw[hg,cN];have e1:(setL (takeAt f (aF f) (look f (kd es i))) (.ent b i) (aF f)).nodes=upd (upd f.nodes (aF f) (some d)) b (some (2,es.set i (ky es i,.empty,(aF f:Int)))):=by
     show(setN (takeAt f (aF f) (look f (kd es i))) b (setE (look (takeAt f (aF f) (look f (kd es i))) b) i (aF f))).nodes=_
     rw[hlk,hse,aE hd];rfl
    rw[e1];split
    ·rw[aC _ _ hx]
    ·rfl
   refine⟨?_,hbq.symm,fun x h1 h2 h3=>?_,fun x d' hx _=>live x d' hx,?_,l2⟩
   ·rw[hN _ hkq.symm,aC _ _ hbq.symm,aD]
   ·rw[hN x h3,aC _ _ h2,aC _ _ h1]
   ·rw[hN b hbk,aD]
theorem VE.moveF{f:fZ}(hV:VE f)(p c s:Nat)(k:Int){ces ses pes:List E3}(h1:VL ces)(h2:VL ses)(h3:VL pes):VE (moveF f p c s k ces ses pes):=((hV.setN c h1).setN s h2).setN p h3
theorem VE.mergeF{f:fZ}(hV:VE f)(p c s:Nat)(k:Int){ces pes:List E3}(h1:VL ces)(h3:VL pes):VE (mergeF f p c s k ces pes):=((hV.setN c h1).setN p h3).letGo s
theorem VE.fallF{f:fZ}(hV:VE f)(t r c:Nat):VE (fallF f t r c):=(hV.freeB r).setL (.root t) c fun b i e=>by cases e
theorem VE.fillNext{g:fZ}(hV:VE g)(hI:IC g){b i c:Nat}{es:List E3}(hes:g.nodes b=some (2,es))(hi:i+1<es.length){f':fZ}(hs:fillNext g b i c=some f'):VE f':=by
 unfold Fo.fillNext at hs;rw[aE hes]at hs;simp only at hs;split at hs
 ·cases hsh:shadow g (.ent b (i+1))with
  | none=>rw[hsh]at hs;cases hs
  | some ks=>
   obtain⟨k,s⟩:=ks;rw[hsh]at hs;simp only[sJ]at hs;subst hs;have hVk:=hV.shadow_ent hI hes hi hsh;obtain⟨d,hd⟩:=hI.kid_live hes (aO hi);obtain⟨_,_,_,_,h5,_⟩:=dB hI hV hes hi hd hsh;refine hVk.moveF b c s _ ((hVk.look c).app ((hVk.look s).take 1)) ((hVk.look s).drop 1) ((hVk.look b).set _ fun q=>?_);rw[aE h5,bA _ _ _ _ _ hi,if_pos rfl]
 ·simp only[sJ]at hs
  subst hs;exact hV.mergeF b c _ _ ((hV.look c).app (hV.look _)) ((hV b _ hes).delE _)
theorem VE.fillLast{g:fZ}(hV:VE g)(hI:IC g){b i c:Nat}{es:List E3}(hes:g.nodes b=some (2,es))(hi:i<es.length)(h1:1≤i){f':fZ}(hs:fillLast g b i c=some f'):VE f':=by
 unfold Fo.fillLast at hs;rw[aE hes]at hs;simp only at hs;have hj:i-1<es.length:=by omega
 split at hs
 ·cases hsh:shadow g (.ent b (i-1))with
  | none=>rw[hsh]at hs;cases hs
  | some ks=>
   obtain⟨k,s⟩:=ks;rw[hsh]at hs;simp only[sJ]at hs;subst hs;have hVk:=hV.shadow_ent hI hes hj hsh;obtain⟨d,hd⟩:=hI.kid_live hes (aO hj);obtain⟨_,_,_,_,h5,_⟩:=dB hI hV hes hj hd hsh;refine hVk.moveF b s c _ ((hVk.look s).take _) (((hVk.look s).drop _).app (hVk.look c)) ((hVk.look b).set _ fun q=>?_);rw[aE h5,bA _ _ _ _ _ hj,if_neg (by omega)];have:=(hV.inner hI hes hi).1;rw[this]
 ·simp only[sJ]at hs
  subst hs;refine hV.mergeF b c _ _ ((hV.look _).app (hV.look c)) (((hV b _ hes).set _ fun q=>?_).delE _);have:=(hV.inner hI hes hi).1;show(es.getD i e0).2.1=_
  rw[this]
theorem uC{g:fZ}{b i:Nat}{es:List E3}(hes:g.nodes b=some (2,es)){k:Int}{ces ses:List E3}(hc:g.nodes (kd es i)=some (k,ces))(hs:g.nodes (kd es (i+1))=some (k,ses))(h2:ses.length=2):
  fillNext g b i (kd es i)=some (mergeF g b (kd es i) (kd es (i+1)) k (ces++ses) (delE es (i+1))):=by
 unfold fillNext;rw[aE hes];simp only;rw[aE hs,aE hc];exact if_neg (by simp only;omega)
theorem sX{g:fZ}(hI:IC g)(hV:VE g){b j:Nat}{es:List E3}(hes:g.nodes b=some (2,es))(hi:j+1<es.length){k:Int}{ces ses:List E3}(hc:g.nodes (kd es (j+1))=some (k,ces))(hs:g.nodes (kd es j)=some (k,ses))(h2:ses.length=2):
  fillLast g b (j+1) (kd es (j+1))=some (mergeF g b (kd es (j+1)) (kd es j) k (ses++ces) (delE (es.set (j+1) (ky es j,.empty,(kd es (j+1):Int))) j)):=by
 unfold fillLast;rw[aE hes];simp only[Nat.add_sub_cancel];rw[aE hs,aE hc];have:=(hV.inner hI hes hi).1;rw[this];exact if_neg (by simp only;omega)
theorem uP{g:fZ}(hI:IC g)(hV:VE g){b i:Nat}{es:List E3}(hes:g.nodes b=some (2,es))(hi:i+1<es.length){k:Int}{ces ses:List E3}(hc:g.nodes (kd es i)=some (k,ces))(hs:g.nodes (kd es (i+1))=some (k,ses))(hbc:b≠kd es i)(hcs:kd es i≠kd es (i+1))(h2:2<ses.length):
  fillNext g b i (kd es i)=(shadow g (.ent b (i+1))).map fun p=>moveF p.1 b (kd es i) p.2 k (ces++ses.take 1) (ses.drop 1) (es.set (i+1) (ky ses 1,.empty,(p.2:Int))):=by
 unfold fillNext;rw[aE hes];simp only;rw[aE hs,if_pos h2];cases hsh:shadow g (.ent b (i+1))with
 | none=>rfl
 | some ks=>
  obtain⟨g',s⟩:=ks;obtain⟨n1,n2,n3,n4,n5,n6⟩:=dB hI hV hes hi hs hsh;have hqc:g'.nodes (kd es i)=some (k,ces):=by
   rw[n3 _ (n4 _ _ hc hcs) hbc.symm hcs];exact hc
  simp only[Option.map_some];rw[aE n1,aE hqc,aE n5];simp only;rw[List.set_set,bA _ _ _ _ _ hi,if_pos rfl]
theorem uT{g:fZ}(hI:IC g)(hV:VE g){b j:Nat}{es:List E3}(hes:g.nodes b=some (2,es))(hi:j+1<es.length){k:Int}{ces ses:List E3}(hc:g.nodes (kd es (j+1))=some (k,ces))(hs:g.nodes (kd es j)=some (k,ses))(hbc:b≠kd es (j+1))(hcs:kd es (j+1)≠kd es j)(h2:2<ses.length):
  fillLast g b (j+1) (kd es (j+1))=(shadow g (.ent b j)).map fun p=>moveF p.1 b p.2 (kd es (j+1)) k (ses.take (ses.length-1)) (ses.drop (ses.length-1)++ces) ((es.set (j+1) (ky ses (ses.length-1),.empty,(kd es (j+1):Int))).set j (ky es j,.empty,(p.2:Int))):=by
 unfold fillLast;rw[aE hes];simp only[Nat.add_sub_cancel];rw[aE hs,if_pos h2];cases hsh:shadow g (.ent b j)with
 | none=>rfl
 | some ks=>
  obtain⟨g',s⟩:=ks;obtain⟨n1,n2,n3,n4,n5,n6⟩:=dB hI hV hes (by omega) hs hsh;have hqc:g'.nodes (kd es (j+1))=some (k,ces):=by
   rw[n3 _ (n4 _ _ hc hcs) hbc.symm hcs];exact hc
  simp only[Option.map_some];rw[aE n1,aE hqc,aE n5];simp only;have hv:=(hV.inner hI hes hi).1;have hg:(es.set j (ky es j,.empty,(s:Int))).getD (j+1) e0=es.getD (j+1) e0:=by rw[bA _ _ _ _ _ (by omega),if_neg (by omega)]
  rw[hg,hv];have:(es.set j (ky es j,.empty,(s:Int))).set (j+1) (ky ses (ses.length-1),.empty,(kd es (j+1):Int))=(es.set (j+1) (ky ses (ses.length-1),.empty,(kd es (j+1):Int))).set j (ky es j,.empty,(s:Int)):=(List.set_comm _ _ (by omega));rw[this]
theorem Wk.sibling{g:fZ}{t H:Nat}(w:Wk g t H){P:List Nat}{b h:Nat}{lo hi:OB}(p:aN g t H P b (h+1) lo hi){es:List E3}(hes:g.nodes b=some (2,es)){i j:Nat}(hi':i<es.length)(hj:j<es.length)(hij:i≠j){k:Int}{ces:List E3}(hc:g.nodes (kd es i)=some (k,ces))(cc:cu g (kd es i)=1):
  ∃ses,g.nodes (kd es j)=some (k,ses)∧2≤ses.length∧b≠kd es i∧b≠kd es j∧kd es i≠kd es j:=by
 have hck:=aO hi';have hsk:=aO hj;obtain⟨es0,q1,e2,e3,e4,e5⟩:=(p.ok w.ok).1;rw[hes]at q1;cases q1;have hOc:=(dK hc).1 (e5 i hi').2;obtain⟨⟨k',ses⟩,hd⟩:=w.ic.kid_live hes hsk;have hOs:=(dK hd).1 (e5 j hj).2;have hkk:k'=k:=by
  cases h with
  | zero=>have a1:=hOc.1;have a2:=hOs.1;simp only at a1 a2;omega
  | succ h=>have a1:=hOc.1;have a2:=hOs.1;simp only at a1 a2;omega
 subst hkk;have hsl:2≤ses.length:=by have:=(e5 j hj).1;unfold sz at this;rw[hd]at this;exact this
 refine⟨ses,hd,hsl,fun e=>w.ic.not_self hes (e▸hck),fun e=>w.ic.not_self hes (e▸hsk),fun e=>?_⟩;have:=dW (w.ic.only cc hes hck).2.1 hi' hj e.symm;omega
theorem Wk.delRound{f:fZ}{t H:Nat}(w:Wk f t H){P:List Nat}{b h:Nat}{lo hi:OB}(p:aN f t H P b (h+1) lo hi){key:ByteArray}(hr:cD f t H)(h3:P≠[]→3≤sz f.nodes b)(hm:Mem f.nodes (h+1) b key){g:fZ}{c:Nat}(hs:Fo.stepDel f b key=some (g,c)):
  aW f g∧((2≤(look g b).2.length∧delAt (h+1) f t b key=delAt h g t c key∧Wk g t H∧∃P' lo' hi',aN g t H P' c h lo' hi'∧(P'≠[]→3≤sz g.nodes c)∧cD g t H∧Mem g.nodes h c key) ∨
   ((look g b).2.length=1∧b=aB g t∧t<g.roots.length∧delAt (h+1) f t b key=delAt h (fallF g t b c) t c key∧∃H',Wk (fallF g t b c) t H'∧aN (fallF g t b c) t H' [] c h none none∧cD (fallF g t b c) t H'∧Mem (fallF g t b c).nodes h c key)):=by
 have st:=w.stepDel p hr h3 hm hs;refine⟨st.same,?_⟩;obtain⟨lo',hi',pc⟩:=st.path;have hd:delAt (h+1) f t b key=if(look g b).2.length=1 then delAt h (fallF g t (aB g t) (kd (look g b).2 0)) t c key else delAt h g t c key:=by
  conv=>lhs;unfold delAt
  rw[hs]
 rcases st.many with⟨es,n1,n2⟩ | ⟨hP,e,n1,n2⟩
 ·left
  have hl:(look g b).2.length=es.length:=by rw[aE n1]
  rw[if_neg (by omega)]at hd;have hrt:cD g t H:=by
   rcases st.rt hr with q | ⟨_,e,q,_⟩
   ·exact q
   ·rw[n1]at q;cases q;simp at n2
  exact⟨by omega,hd,st.wk,_,lo',hi',pc,fun _=>st.spare,hrt,st.mem⟩
 ·right
  have hl:(look g b).2.length=1:=by rw[aE n1];rfl
  have hkd:kd (look g b).2 0=c:=by rw[aE n1];exact n2
  rw[if_pos hl,hkd]at hd;subst hP;rcases st.up.top with⟨_,q,q'⟩ | ⟨q,_⟩
  ·subst q'
   have n1':=n1;rw[q]at n1;have hc1:cu g (aB g t)=1:=by have:=(st.up.named st.wk.ic st.wk.tl b List.mem_cons_self).1;rw[q]at this;exact this
   have hc2:cu g (ch e)=1:=by rw[n2];exact(pc.named st.wk.ic st.wk.tl c List.mem_cons_self).1
   obtain⟨v1,v2,v3,v4,v5,v6⟩:=st.wk.fall n1 hc1 hc2;rw[n2]at v1 v2 v3 v4 v5 v6;rw[←q]at hd v1 v2 v4 v6;exact⟨hl,q,st.wk.tl,hd,_,v1,v2,v4,v6 key st.mem⟩
  ·cases q
theorem Wk.two{f:fZ}{t H:Nat}{P:List Nat}{b h:Nat}{lo hi:OB}(p:aN f t H P b (h+1) lo hi)(hr:cD f t H)(h3:P≠[]→3≤sz f.nodes b){es:List E3}(hes:f.nodes b=some (2,es)):2≤es.length:=by
 by_cases hP:P=[]
 ·rcases p.top with⟨_,q,q'⟩ | ⟨q,_⟩
  ·rcases hr with hr | hr
   ·omega
   ·rw[←q]at hr;unfold sz at hr;rw[hes]at hr;exact hr
  ·rw[hP]at q;cases q
 ·have:=h3 hP;unfold sz at this;rw[hes]at this;simp only at this;omega
def nQ(nodes:Nat→Option Nd):Nat→Nat→List Nat
 | 0,b=>(List.range (mN nodes b).length).map fun j=>5*b+j
 | h+1,b=>(mN nodes b).flatMap fun e=>nQ nodes h (ch e)
def aDM(nodes:Nat→Option Nd)(c:Nat):ByteArray:=ky (mN nodes (c / 5)) (c % 5)
theorem xY{f:fZ}(hI:IC f):∀{h b:Nat} {lo hi:OB},Ok f.nodes h b lo hi→(bU f.nodes h b).map (fun p=>p.1)=(nQ f.nodes h b).map (aDM f.nodes)∧∀c∈nQ f.nodes h b,c<5*f.cur.length
 | 0,b,lo,hi,k=>by
  obtain⟨d,hd,_,h5,_⟩:=k.sz_pos;have hb:=hI.lt hd;have he:mN f.nodes b=d.2:=dN hd;unfold bU nQ;rw[he];constructor
  ·refine List.ext_getElem? fun j=>?_
   rw[List.getElem?_map,List.getElem?_map,List.getElem?_map,List.getElem?_map];by_cases hj:j<d.2.length
   ·rw[gE hj,List.getElem?_range hj]
    simp only[Option.map_some,sJ];unfold aDM;rw[show(5*b+j) / 5=b by omega,show(5*b+j) % 5=j by omega,he];unfold ky;rw[gD,gE hj];rfl
   ·rw[List.getElem?_eq_none (by omega),List.getElem?_eq_none (by simp;omega)];rfl
  ·intro c hc
   obtain⟨j,hj,rfl⟩:=List.mem_map.1 hc;have:=List.mem_range.1 hj;omega
 | h+1,b,lo,hi,k=>by
  obtain⟨es,h1,h2,h3,h4,h5⟩:=k;have he:mN f.nodes b=es:=dN h1;unfold bU nQ;rw[he];have key:∀e∈es,(bU f.nodes h (ch e)).map (fun p=>p.1)=(nQ f.nodes h (ch e)).map (aDM f.nodes)∧∀c∈nQ f.nodes h (ch e),c<5*f.cur.length:=fun e hm=>by
   obtain⟨j,hj,rfl⟩:=dP hm;exact xY hI (h5 j hj).2
  constructor
  ·rw[List.map_flatMap,List.map_flatMap]
   have aux:∀l:List E3,(∀e∈l,e∈es)→l.flatMap (fun a=>(bU f.nodes h (ch a)).map fun p=>p.1)=l.flatMap (fun a=>(nQ f.nodes h (ch a)).map (aDM f.nodes)):=by
    intro l;induction l with
    | nil=>intro _;rfl
    | cons a l ih=>
     intro hl;rw[List.flatMap_cons,List.flatMap_cons,(key a (hl a List.mem_cons_self)).1,ih fun e he=>hl e (List.mem_cons_of_mem _ he)]
   exact aux es fun _ q=>q
  ·intro c hc
   obtain⟨e,he1,he2⟩:=List.mem_flatMap.1 hc;exact(key e he1).2 c he2
theorem aDN{f:fZ}(hI:IC f){h b:Nat}{lo hi:OB}(k:Ok f.nodes h b lo hi):(bU f.nodes h b).length≤2560:=by
 obtain⟨h1,h2⟩:=xY hI k;have hs:=nV k;have hn:(nQ f.nodes h b).Nodup:=by
  have h3:((bU f.nodes h b).map fun p=>p.1).Pairwise fun p q=>kl p q=true:=List.pairwise_map.2 hs;rw[h1]at h3;have h4:=List.pairwise_map.1 h3;refine h4.imp fun {a b} hab e=>?_;rw[e,eD]at hab;cases hab
 have:=few (5*f.cur.length) _ hn h2
 have hl:=congrArg List.length h1;rw[List.length_map,List.length_map]at hl;have:=hI.n512;omega
