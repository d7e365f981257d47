import Derived.Test.YtaahkgkdpnnhhaaGreatFo25
set_option linter.all false
namespace Go.Proofs.YtaahkgkdpnnhhaaGreat.Fo
variable{th:Bool}{key val:ByteArray}{e:E3}{k:Int}{a ces es pes ses:List E3}{P:List Nat}{H b c h i j t:Nat}{d:Nd}{hi lo:OB}{α:Type}{f f' g:fZ}
theorem aHU(xu:IC f)(kg:∀t,t<f.roots.length→∃h,Ok f.nodes h (aB f t) none none)(hd:f.nodes b=some d):∃k lo hi,Ok f.nodes k b lo hi:=by
 obtain⟨ht,hh⟩:=xu.ht;obtain⟨M,hM⟩:=rB ht f.cur.length;have key:∀(m:Nat) (b:Nat) (d:Nd),M-ht b≤m→f.nodes b=some d→∃k lo hi,Ok f.nodes k b lo hi:=by
  intro m;induction m with
  | zero=>
   intro b d hm hd;have hb:=xu.lt hd;have hp:=xu.cu_pos hd;rw[xu.names hb]at hp;by_cases hr:0<rc f.roots b
   ·obtain⟨r,yf,pj⟩:=List.mem_map.1 (List.count_pos_iff.1 hr)
    obtain⟨t,AZ,Aa⟩:=List.getElem_of_mem yf;obtain⟨k,hk⟩:=kg t AZ;refine⟨k,none,none,?_⟩;have:aB f t=b:=by unfold aB;rw[gD,gE AZ,Aa];exact pj
    rw[←this];exact hk
   ·have CT:0<deg f.nodes f.cur.length b:=by omega
    obtain⟨x,hx,hc⟩:=jO CT;cases i5:f.nodes x with
    | none=>simp[i5,bZ]at hc
    | some dx=>
     rw[i5]at hc;have qa:b∈kids dx:=List.count_pos_iff.1 hc;rcases hh x dx i5 with⟨q,_⟩ | ⟨_,q⟩
     ·simp[kids,q]at qa
     ·have:=q b qa;have:=hM x hx;omega
  | succ m ih=>
   intro b d hm hd;have hb:=xu.lt hd;have hp:=xu.cu_pos hd;rw[xu.names hb]at hp;by_cases hr:0<rc f.roots b
   ·obtain⟨r,yf,pj⟩:=List.mem_map.1 (List.count_pos_iff.1 hr)
    obtain⟨t,AZ,Aa⟩:=List.getElem_of_mem yf;obtain⟨k,hk⟩:=kg t AZ;refine⟨k,none,none,?_⟩;have:aB f t=b:=by unfold aB;rw[gD,gE AZ,Aa];exact pj
    rw[←this];exact hk
   ·have CT:0<deg f.nodes f.cur.length b:=by omega
    obtain⟨x,hx,hc⟩:=jO CT;cases i5:f.nodes x with
    | none=>simp[i5,bZ]at hc
    | some dx=>
     rw[i5]at hc;have qa:b∈kids dx:=List.count_pos_iff.1 hc;rcases hh x dx i5 with⟨q,_⟩ | ⟨q2,q⟩
     ·simp[kids,q]at qa
     ·have h1:=q b qa
      have h2:=hM x hx;obtain⟨k,lo,hi,hk⟩:=ih x dx (by omega) i5;cases k with
      | zero=>obtain⟨es,he,_⟩:=hk;rw[i5]at he;cases he;simp at q2
      | succ k=>
       obtain⟨es,he,_,_,_,h5⟩:=hk;rw[i5]at he;cases he;rw[kids,if_pos rfl]at qa;obtain⟨e,EQ,vg⟩:=List.mem_map.1 qa;obtain⟨j,hj,Jm⟩:=cY EQ;have:=(h5 j hj).2;have iw:kd es j=b:=by unfold kd;rw[Jm];exact vg
       rw[iw]at this;exact⟨k,_,_,this⟩
 exact key _ b d (nR _) hd
theorem Wk.ent(w:Wk f t H)(hd:f.nodes b=some d):d.2.length≤5:=by
 obtain⟨k,lo,hi,hk⟩:=aHU w.ic (fun u hu=>by
  by_cases e:u=t
  ·subst e;exact⟨H,w.ok⟩
  ·obtain⟨h,h1,_⟩:=w.oth u hu e;exact⟨h,h1⟩) hd
 obtain⟨d',h1,_,h2,_⟩:=hk.sz_pos;rw[hd]at h1;cases h1;exact h2
theorem IC.counts(h:IC f)(ju:f.roots.length≤16)(he:∀b d,f.nodes b=some d→d.2.length≤10)(x:Nat):cu f x≤1000000:=by
 by_cases hx:x<f.cur.length
 ·rw[h.names hx]
  have h1:rc f.roots x≤16:=by
   have:=List.count_le_length (a:=x) (l:=f.roots.map fun r=>r.2.toNat)
   unfold rc;simp at *;omega
  have h2:deg f.nodes f.cur.length x≤f.cur.length*10:=oJ fun y hy=>by
   cases hny:f.nodes y with
   | none=>simp[bZ]
   | some d=>
    have:=he y d hny
    have h3:=List.count_le_length (a:=x) (l:=kids d);have h4:(kids d).length≤d.2.length:=by unfold kids;split<;>simp
    simp only[bZ];omega
  have:=h.n512
  omega
 ·rw[wI (by omega)];omega
def VL(es:List E3):Prop:=∀e∈es,e.2.2≠0→e.2.1=ByteArray.empty
def VE(f:fZ):Prop:=∀b d,f.nodes b=some d→VL d.2
theorem VL.nil:VL []:=fun e h=>by cases h
theorem VL.get(h:VL es)(hi:i<es.length)(h0:(es.getD i e0).2.2≠0):(es.getD i e0).2.1=ByteArray.empty:=h _ (nG hi) h0
theorem VL.app{b:List E3}(ha:VL a)(hb:VL b):VL (a++b):=fun e h=>by
 rcases List.mem_append.1 h with q | q
 ·exact ha e q
 ·exact hb e q
theorem VL.take(ha:VL a)(n:Nat):VL (a.take n):=fun e h=>ha e (List.mem_of_mem_take h)
theorem VL.drop(ha:VL a)(n:Nat):VL (a.drop n):=fun e h=>ha e (List.mem_of_mem_drop h)
theorem VL.one(h:e.2.2≠0→e.2.1=ByteArray.empty):VL [e]:=fun x hx=>by simp only[List.mem_singleton]at hx;subst hx;exact h
theorem VL.insE(ha:VL a)(i:Nat)(h:e.2.2≠0→e.2.1=ByteArray.empty):VL (insE a i e):=by
 unfold Fo.insE;exact(ha.take i).app fun x hx=>by
  rcases List.mem_cons.1 hx with q | q
  ·subst q;exact h
  ·exact ha.drop i x q
theorem VL.delE(ha:VL a)(i:Nat):VL (delE a i):=(ha.take i).app (ha.drop (i+1))
theorem VL.set(ha:VL a)(i:Nat)(h:e.2.2≠0→e.2.1=ByteArray.empty):VL (a.set i e):=fun x hx=>by
 rcases List.mem_or_eq_of_mem_set hx with q | q
 ·exact ha x q
 ·subst q;exact h
theorem VE.look(h:VE f)(b:Nat):VL (look f b).2:=by
 unfold Fo.look;cases e:f.nodes b with
 | none=>exact VL.nil
 | some d=>exact h b d e
theorem VE.upd(h:VE f)(hd:VL d.2)(hn:∀x d',g.nodes x=some d'→f.nodes x=some d'∨d'=d):VE g:=fun x d' hx=>by
 rcases hn x d' hx with q | q
 ·exact h x d' q
 ·rw[q];exact hd
theorem VE.sub(h:VE f)(hn:∀x d',g.nodes x=some d'→f.nodes x=some d'):VE g:=fun x d' hx=>h x d' (hn x d' hx)
theorem VE.setN(h:VE f)(b:Nat)(hd:VL d.2):VE (setN f b d):=h.upd hd fun x d' hx=>by
 have bq:Fo.upd f.nodes b (some d) x=some d':=hx;by_cases e:x=b
 ·rw[e,aD]at bq;cases bq;exact .inr rfl
 ·rw[aC _ _ e]at bq;exact .inl bq
theorem VE.takeAt(h:VE f)(b:Nat)(hd:VL d.2):VE (takeAt f b d):=VE.setN (f:=f) h b hd
theorem VE.freeB(h:VE f)(b:Nat):VE (freeB f b):=h.sub fun x d' hx=>by
 have bq:Fo.upd f.nodes b none x=some d':=hx;by_cases e:x=b
 ·rw[e,aD]at bq;cases bq
 ·rw[aC _ _ e]at bq;exact bq
theorem VE.letGo(h:VE f)(b:Nat):VE (letGo f b):=by
 unfold Fo.letGo;split
 ·exact h.freeB b
 ·exact h
theorem VL.setE(h:VL d.2)(i q:Nat)(hc:(d.2.getD i e0).2.2≠0∨(d.2.getD i e0).2.1=ByteArray.empty):VL (setE d i q).2:=by
 unfold Fo.setE;by_cases hi:i<d.2.length
 ·refine h.set i fun _=>?_
  rcases hc with hc | hc
  ·exact h.get hi hc
  ·exact hc
 ·show VL (d.2.set i _)
  rw[List.set_eq_of_length_le (by omega)];exact h
theorem VE.setL(h:VE f)(L:Loc)(q:Nat)(hc:∀b i,L=.ent b i→((Fo.look f b).2.getD i e0).2.2≠0):VE (setL f L q):=by
 cases L with
 | inl t=>exact h.sub fun _ _ q=>q
 | inr bi=>obtain⟨b,i⟩:=bi;exact h.setN b ((h.look b).setE i q (.inl (hc b i rfl)))
theorem VE.shadowAt(h:VE f)(L:Loc)(q:Nat)(hc:∀b i,L=.ent b i→b≠q∧((Fo.look f b).2.getD i e0).2.2≠0):VE (shadowAt f L q):=by
 unfold Fo.shadowAt;refine VE.letGo (VE.setL (h.takeAt q (h.look _)) L q fun b i e=>?_) _;obtain⟨h1,h2⟩:=hc b i e;have:Fo.look (Fo.takeAt f q (Fo.look f (bI f L))) b=Fo.look f b:=by
  unfold Fo.look;show(Fo.upd f.nodes q _ b).getD _=_
  rw[aC _ _ h1]
 rw[this];exact h2
theorem VL.lowK(h:VL es)(key:ByteArray):VL (lowK es key):=by
 unfold Fo.lowK;split
 ·by_cases hn:0<es.length
  ·exact h.set 0 fun q=>h.get hn q
  ·rw[List.set_eq_of_length_le (by omega)];exact h
 ·exact h
theorem VL.putE(h:VL es)(key val:ByteArray)(h0:∀i,i<es.length→(es.getD i e0).2.2=0):VL (putE es key val):=by
 unfold Fo.putE;split
 ·rename_i hk
  have:=((dJ es key).1 hk).1
  exact h.set _ fun q=>absurd (h0 _ this) q
 ·exact h.insE _ fun q=>absurd rfl q
theorem VE.inner(h:VE f)(hI:IC f)(hd:f.nodes b=some (2,es))(hi:i<es.length):es.getD i e0=(ky es i,.empty,(kd es i:Int))∧(es.getD i e0).2.2≠0:=by
 have hk:kd es i∈kids (2,es):=aP hi;obtain⟨d',fy⟩:=hI.kid_live hd hk;have h2:=hI.ge2 fy;have hp:=hI.child_pos hd hi;have hc:(es.getD i e0).2.2=(kd es i:Int):=by unfold kd ch;omega
 have h0:(es.getD i e0).2.2≠0:=by omega
 refine⟨?_,h0⟩;have:=VL.get (h b _ hd) hi h0;rw[←hc];have e1:(es.getD i e0).2.1=ByteArray.empty:=this;rw[←e1];rfl
theorem tI(hi:i<es.length)(h:es.getD i e0=e):es.set i e=es:=by
 refine List.ext_getElem? fun j=>?_;rw[List.getElem?_set];by_cases q:i=j
 ·subst q
  rw[if_pos rfl,if_pos hi,←h,gD,gE hi];rfl
 ·rw[if_neg q]
theorem tK(hI:IC f)(hV:VE f)(af:f.nodes b=some (2,es))(hi:i<es.length)(hd:f.nodes (kd es i)=some d):
  (own f (kd es i)∧shadow f (.ent b i)=some (f,kd es i)∧es.set i (ky es i,.empty,(kd es i:Int))=es) ∨
  (¬own f (kd es i)∧aF f=0∧shadow f (.ent b i)=none) ∨
  (¬own f (kd es i)∧aF f≠0∧∃g,shadow f (.ent b i)=some (g,aF f)∧g.roots=f.roots∧aW f g∧∀x d',g.nodes x=some d'→(setN (setN f (aF f) d) b (2,es.set i (ky es i,.empty,(aF f:Int)))).nodes x=some d'):=by
 have hg:bI f (.ent b i)=kd es i:=by simp only[bI,aE af];rfl
 obtain⟨v1,v2⟩:=hV.inner hI af hi;by_cases ho:own f (kd es i)
 ·refine .inl ⟨ho,?_,tI hi v1⟩
  unfold shadow;rw[hg,if_pos ho]
 ·by_cases hl:aF f=0
  ·refine .inr (.inl ⟨ho,hl,?_⟩)
   unfold shadow;rw[hg,if_neg ho,if_pos hl]
  ·refine .inr (.inr ⟨ho,hl,shadowAt f (.ent b i) (aF f),?_,eK f b i _,aW.shadowAt f _ _,fun x d' hx=>?_⟩)
   ·unfold shadow;rw[hg,if_neg ho,if_neg hl]
   ·obtain⟨l1,l2,l3,l4⟩:=aR hl
    have mi:b≠aF f:=fun e=>by have:=hI.cu_pos af;rw[e]at this;omega
    have uq:(setL (takeAt f (aF f) (look f (kd es i))) (.ent b i) (aF f)).nodes x=some d':=by
     unfold shadowAt at hx;rw[hg]at hx;rw[cQ]at hx;split at hx
     ·by_cases e:x=kd es i
      ·rw[e,aD]at hx;cases hx
      ·rw[aC _ _ e]at hx;exact hx
     ·exact hx
    have gk:look (takeAt f (aF f) (look f (kd es i))) b=(2,es):=by
     unfold look;show(upd f.nodes (aF f) _ b).getD _=_
     rw[aC _ _ mi,af];rfl
    have LA:setE (2,es) i (aF f)=(2,es.set i (ky es i,.empty,(aF f:Int))):=by
     unfold setE;rw[v1]
    have:(setL (takeAt f (aF f) (look f (kd es i))) (.ent b i) (aF f))=setN (takeAt f (aF f) (look f (kd es i))) b (setE (look (takeAt f (aF f) (look f (kd es i))) b) i (aF f)):=rfl
    rw[this,gk,LA,aE hd]at uq;exact uq
theorem qM(hI:IC f)(ht:t<f.roots.length)(hd:f.nodes (aB f t)=some d):
  (own f (aB f t)∧shadow f (.root t)=some (f,aB f t)∧f.roots.set t ((f.roots.getD t (0,0)).1,(aB f t:Int))=f.roots) ∨
  (¬own f (aB f t)∧aF f=0∧shadow f (.root t)=none) ∨
  (¬own f (aB f t)∧aF f≠0∧∃g,shadow f (.root t)=some (g,aF f)∧g.roots=f.roots.set t ((f.roots.getD t (0,0)).1,(aF f:Int))∧aW f g∧∀x d',g.nodes x=some d'→(setN f (aF f) d).nodes x=some d'):=by
 have hg:bI f (.root t)=aB f t:=rfl;by_cases ho:own f (aB f t)
 ·refine .inl ⟨ho,?_,?_⟩
  ·unfold shadow;rw[hg,if_pos ho]
  ·have h0:0≤(f.roots.getD t (0,0)).2:=(hI.rb _ (aO ht)).1
   have:((f.roots.getD t (0,0)).1,(aB f t:Int))=f.roots.getD t (0,0):=by
    unfold aB;rw[Int.toNat_of_nonneg h0]
   rw[this];refine List.ext_getElem? fun j=>?_;rw[List.getElem?_set];by_cases q:t=j
   ·subst q
    rw[if_pos rfl,if_pos ht,gD,gE ht];rfl
   ·rw[if_neg q]
 ·by_cases hl:aF f=0
  ·refine .inr (.inl ⟨ho,hl,?_⟩)
   unfold shadow;rw[hg,if_neg ho,if_pos hl]
  ·refine .inr (.inr ⟨ho,hl,shadowAt f (.root t) (aF f),?_,dK f t _,aW.shadowAt f _ _,fun x d' hx=>?_⟩)
   ·unfold shadow;rw[hg,if_neg ho,if_neg hl]
   ·have uq:(setL (takeAt f (aF f) (look f (aB f t))) (.root t) (aF f)).nodes x=some d':=by
     unfold shadowAt at hx;rw[hg]at hx;rw[cQ]at hx;split at hx
     ·by_cases e:x=aB f t
      ·rw[e,aD]at hx;cases hx
      ·rw[aC _ _ e]at hx;exact hx
     ·exact hx
    have:(setL (takeAt f (aF f) (look f (aB f t))) (.root t) (aF f)).nodes=(setN f (aF f) (look f (aB f t))).nodes:=rfl
    rw[this,aE hd]at uq;exact uq
theorem VE.shadow_ent(hV:VE f)(hI:IC f)(af:f.nodes b=some (2,es))(hi:i<es.length)(hs:shadow f (.ent b i)=some (g,c)):VE g:=by
 have hg:bI f (.ent b i)=kd es i:=by simp only[bI,aE af];rfl
 unfold shadow at hs;rw[hg]at hs;by_cases ho:own f (kd es i)
 ·rw[if_pos ho]at hs;cases hs;exact hV
 ·rw[if_neg ho]at hs
  by_cases hl:aF f=0
  ·rw[if_pos hl]at hs;cases hs
  ·rw[if_neg hl]at hs
   cases hs
   obtain⟨l1,l2,l3,l4⟩:=aR hl;refine hV.shadowAt _ _ fun b' i' e=>?_;cases e;refine⟨fun e=>by have:=hI.cu_pos af;rw[e]at this;omega,?_⟩;rw[aE af];exact(hV.inner hI af hi).2
theorem VE.shadow_root(hV:VE f)(hs:shadow f (.root t)=some (g,c)):VE g:=by
 unfold shadow at hs;by_cases ho:own f (bI f (.root t))
 ·rw[if_pos ho]at hs;cases hs;exact hV
 ·rw[if_neg ho]at hs
  by_cases hl:aF f=0
  ·rw[if_pos hl]at hs;cases hs
  ·rw[if_neg hl]at hs
   cases hs
   exact hV.shadowAt _ _ fun b' i' e=>by cases e
theorem VE.splitF(hV:VE f)(p:Nat)(hp:VL pes)(a c:Nat)(k:Int)(hc:VL ces)(m q:Nat)(key:ByteArray):VE (splitF f p pes a c k ces m q key):=
 ((hV.setN c (hc.take m)).takeAt q (hc.drop m)).setN p (hp.insE _ fun _=>rfl)
theorem VE.growF(hV:VE f)(t r:Nat)(k:Int)(he:VL es)(m q top:Nat)(k0 k1:ByteArray):VE (growF f t r k es m q top k0 k1):=by
 refine VE.setL (VE.takeAt (VE.takeAt (hV.setN r (he.take m)) q (he.drop m)) top ?_) (.root t) top fun b i e=>by cases e
 exact(VL.one (e:=(k0,.empty,(r:Int))) fun _=>rfl).app (VL.one (e:=(k1,.empty,(q:Int))) fun _=>rfl)
theorem pS(af:f.nodes b=some (2,es))(key:ByteArray):stepDown f b key=match shadow (setN f b (2,lowK es key)) (.ent b (bK (lowK es key) key))with
  | none=>none
  | some (g,c)=>if(look g c).2.length=5 then if aF g=0 then none else some (splitF g b (look g b).2 (bK (lowK es key) key) c (look g c).1 (look g c).2 3 (aF g) (ky (look g c).2 3),if kl key (ky (look g c).2 3)=true then c else aF g)else some (g,c):=by
 unfold stepDown;rw[aE af];rfl
theorem dC(hI:IC f)(hV:VE f)(af:f.nodes b=some (2,es))(hi:i<es.length)(hd:f.nodes (kd es i)=some d)(hs:shadow f (.ent b i)=some (g,c)):
  g.nodes c=some d∧c≠b∧(∀x,x≠c→x≠b→x≠kd es i→g.nodes x=f.nodes x)∧(∀x d',f.nodes x=some d'→x≠kd es i→x≠c)∧g.nodes b=some (2,es.set i (ky es i,.empty,(c:Int)))∧c<f.cur.length:=by
 have hg:bI f (.ent b i)=kd es i:=by simp only[bI,aE af];rfl
 have qa:b≠kd es i:=fun e=>hI.not_self af (by rw[e];exact aP hi);obtain⟨v1,v2⟩:=hV.inner hI af hi;unfold shadow at hs;rw[hg]at hs;by_cases ho:own f (kd es i)
 ·rw[if_pos ho]at hs;cases hs
  exact⟨hd,qa.symm,fun _ _ _ _=>rfl,fun _ _ _ q=>q,by rw[tI hi v1];exact af,hI.lt hd⟩
 ·rw[if_neg ho]at hs
  by_cases hl:aF f=0
  ·rw[if_pos hl]at hs;cases hs
  ·rw[if_neg hl]at hs
   cases hs
   obtain⟨l1,l2,l3,l4⟩:=aR hl;have live:∀x d',f.nodes x=some d'→x≠aF f:=fun x d' hx e=>by have:=hI.cu_pos hx;rw[e]at this;omega
   have mi:=live b _ af;have Wa:=live _ _ hd;have gk:look (takeAt f (aF f) (look f (kd es i))) b=(2,es):=by
    unfold look;show(upd f.nodes (aF f) _ b).getD _=_
    rw[aC _ _ mi,af];rfl
   have LA:setE (2,es) i (aF f)=(2,es.set i (ky es i,.empty,(aF f:Int))):=by
    unfold setE;rw[v1]
   have hN:∀x,x≠kd es i→(shadowAt f (.ent b i) (aF f)).nodes x=upd (upd f.nodes (aF f) (some d)) b (some (2,es.set i (ky es i,.empty,(aF f:Int)))) x:=fun x hx=>by
    unfold shadowAt;rw[hg,cQ];have e1:(setL (takeAt f (aF f) (look f (kd es i))) (.ent b i) (aF f)).nodes=upd (upd f.nodes (aF f) (some d)) b (some (2,es.set i (ky es i,.empty,(aF f:Int)))):=by
     show(setN (takeAt f (aF f) (look f (kd es i))) b (setE (look (takeAt f (aF f) (look f (kd es i))) b) i (aF f))).nodes=_
     rw[gk,LA,aE hd];rfl
    rw[e1];split
    ·rw[aC _ _ hx]
    ·rfl
   refine⟨?_,mi.symm,fun x h1 h2 h3=>?_,fun x d' hx _=>live x d' hx,?_,l2⟩
   ·rw[hN _ Wa.symm,aC _ _ mi.symm,aD]
   ·rw[hN x h3,aC _ _ h2,aC _ _ h1]
   ·rw[hN b qa,aD]
theorem VE.moveF(hV:VE f)(p c s:Nat)(k:Int)(h1:VL ces)(h2:VL ses)(h3:VL pes):VE (moveF f p c s k ces ses pes):=((hV.setN c h1).setN s h2).setN p h3
theorem VE.mergeF(hV:VE f)(p c s:Nat)(k:Int)(h1:VL ces)(h3:VL pes):VE (mergeF f p c s k ces pes):=((hV.setN c h1).setN p h3).letGo s
theorem VE.fallF(hV:VE f)(t r c:Nat):VE (fallF f t r c):=(hV.freeB r).setL (.root t) c fun b i e=>by cases e
theorem VE.fillNext(hV:VE g)(hI:IC g)(af:g.nodes b=some (2,es))(hi:i+1<es.length)(hs:fillNext g b i c=some f'):VE f':=by
 unfold Fo.fillNext at hs;rw[aE af]at hs;simp only at hs;split at hs
 ·cases al:shadow g (.ent b (i+1))with
  | none=>rw[al]at hs;cases hs
  | some ks=>
   obtain⟨k,s⟩:=ks;rw[al]at hs;simp only[sJ]at hs;subst hs;have Dy:=hV.shadow_ent hI af hi al;obtain⟨d,hd⟩:=hI.kid_live af (aP hi);obtain⟨_,_,_,_,h5,_⟩:=dC hI hV af hi hd al;refine Dy.moveF b c s _ ((Dy.look c).app ((Dy.look s).take 1)) ((Dy.look s).drop 1) ((Dy.look b).set _ fun q=>?_);rw[aE h5,bA _ _ _ _ _ hi,if_pos rfl]
 ·simp only[sJ]at hs
  subst hs;exact hV.mergeF b c _ _ ((hV.look c).app (hV.look _)) ((hV b _ af).delE _)
theorem VE.fillLast(hV:VE g)(hI:IC g)(af:g.nodes b=some (2,es))(hi:i<es.length)(h1:1≤i)(hs:fillLast g b i c=some f'):VE f':=by
 unfold Fo.fillLast at hs;rw[aE af]at hs;simp only at hs;have hj:i-1<es.length:=by omega
 split at hs
 ·cases al:shadow g (.ent b (i-1))with
  | none=>rw[al]at hs;cases hs
  | some ks=>
   obtain⟨k,s⟩:=ks;rw[al]at hs;simp only[sJ]at hs;subst hs;have Dy:=hV.shadow_ent hI af hj al;obtain⟨d,hd⟩:=hI.kid_live af (aP hj);obtain⟨_,_,_,_,h5,_⟩:=dC hI hV af hj hd al;refine Dy.moveF b s c _ ((Dy.look s).take _) (((Dy.look s).drop _).app (Dy.look c)) ((Dy.look b).set _ fun q=>?_);rw[aE h5,bA _ _ _ _ _ hj,if_neg (by omega)];have:=(hV.inner hI af hi).1;rw[this]
 ·simp only[sJ]at hs
  subst hs;refine hV.mergeF b c _ _ ((hV.look _).app (hV.look c)) (((hV b _ af).set _ fun q=>?_).delE _);have:=(hV.inner hI af hi).1;show(es.getD i e0).2.1=_
  rw[this]
theorem rL(af:g.nodes b=some (2,es))(hc:g.nodes (kd es i)=some (k,ces))(hs:g.nodes (kd es (i+1))=some (k,ses))(h2:ses.length=2):
  fillNext g b i (kd es i)=some (mergeF g b (kd es i) (kd es (i+1)) k (ces++ses) (delE es (i+1))):=by
 unfold fillNext;rw[aE af];simp only;rw[aE hs,aE hc];exact if_neg (by simp only;omega)
theorem rK(hI:IC g)(hV:VE g)(af:g.nodes b=some (2,es))(hi:j+1<es.length)(hc:g.nodes (kd es (j+1))=some (k,ces))(hs:g.nodes (kd es j)=some (k,ses))(h2:ses.length=2):
  fillLast g b (j+1) (kd es (j+1))=some (mergeF g b (kd es (j+1)) (kd es j) k (ses++ces) (delE (es.set (j+1) (ky es j,.empty,(kd es (j+1):Int))) j)):=by
 unfold fillLast;rw[aE af];simp only[Nat.add_sub_cancel];rw[aE hs,aE hc];have:=(hV.inner hI af hi).1;rw[this];exact if_neg (by simp only;omega)
theorem uC(hI:IC g)(hV:VE g)(af:g.nodes b=some (2,es))(hi:i+1<es.length)(hc:g.nodes (kd es i)=some (k,ces))(hs:g.nodes (kd es (i+1))=some (k,ses))(ms:b≠kd es i)(g8:kd es i≠kd es (i+1))(h2:2<ses.length):
  fillNext g b i (kd es i)=(shadow g (.ent b (i+1))).map fun p=>moveF p.1 b (kd es i) p.2 k (ces++ses.take 1) (ses.drop 1) (es.set (i+1) (ky ses 1,.empty,(p.2:Int))):=by
 unfold fillNext;rw[aE af];simp only;rw[aE hs,if_pos h2];cases al:shadow g (.ent b (i+1))with
 | none=>rfl
 | some ks=>
  obtain⟨g',s⟩:=ks;obtain⟨n1,n2,n3,n4,n5,n6⟩:=dC hI hV af hi hs al;have GG:g'.nodes (kd es i)=some (k,ces):=by
   rw[n3 _ (n4 _ _ hc g8) ms.symm g8];exact hc
  simp only[Option.map_some];rw[aE n1,aE GG,aE n5];simp only;rw[List.set_set,bA _ _ _ _ _ hi,if_pos rfl]
theorem uB(hI:IC g)(hV:VE g)(af:g.nodes b=some (2,es))(hi:j+1<es.length)(hc:g.nodes (kd es (j+1))=some (k,ces))(hs:g.nodes (kd es j)=some (k,ses))(ms:b≠kd es (j+1))(g8:kd es (j+1)≠kd es j)(h2:2<ses.length):
  fillLast g b (j+1) (kd es (j+1))=(shadow g (.ent b j)).map fun p=>moveF p.1 b p.2 (kd es (j+1)) k (ses.take (ses.length-1)) (ses.drop (ses.length-1)++ces) ((es.set (j+1) (ky ses (ses.length-1),.empty,(kd es (j+1):Int))).set j (ky es j,.empty,(p.2:Int))):=by
 unfold fillLast;rw[aE af];simp only[Nat.add_sub_cancel];rw[aE hs,if_pos h2];cases al:shadow g (.ent b j)with
 | none=>rfl
 | some ks=>
  obtain⟨g',s⟩:=ks;obtain⟨n1,n2,n3,n4,n5,n6⟩:=dC hI hV af (by omega) hs al;have GG:g'.nodes (kd es (j+1))=some (k,ces):=by
   rw[n3 _ (n4 _ _ hc g8) ms.symm g8];exact hc
  simp only[Option.map_some];rw[aE n1,aE GG,aE n5];simp only;have hv:=(hV.inner hI af hi).1;have hg:(es.set j (ky es j,.empty,(s:Int))).getD (j+1) e0=es.getD (j+1) e0:=by rw[bA _ _ _ _ _ (by omega),if_neg (by omega)]
  rw[hg,hv];have:(es.set j (ky es j,.empty,(s:Int))).set (j+1) (ky ses (ses.length-1),.empty,(kd es (j+1):Int))=(es.set (j+1) (ky ses (ses.length-1),.empty,(kd es (j+1):Int))).set j (ky es j,.empty,(s:Int)):=(List.set_comm _ _ (by omega));rw[this]
theorem Wk.sibling(w:Wk g t H)(p:aN g t H P b (h+1) lo hi)(af:g.nodes b=some (2,es))(am:i<es.length)(hj:j<es.length)(im:i≠j)(hc:g.nodes (kd es i)=some (k,ces))(cc:cu g (kd es i)=1):
  ∃ses,g.nodes (kd es j)=some (k,ses)∧2≤ses.length∧b≠kd es i∧b≠kd es j∧kd es i≠kd es j:=by
 have fh:=aP am;have tr:=aP hj;obtain⟨es0,q1,e2,e3,e4,e5⟩:=(p.ok w.ok).1;rw[af]at q1;cases q1;have BN:=(dN hc).1 (e5 i am).2;obtain⟨⟨k',ses⟩,hd⟩:=w.ic.kid_live af tr;have Am:=(dN hd).1 (e5 j hj).2;have pd:k'=k:=by
  cases h with
  | zero=>have a1:=BN.1;have a2:=Am.1;simp only at a1 a2;omega
  | succ h=>have a1:=BN.1;have a2:=Am.1;simp only at a1 a2;omega
 subst pd;have dw:2≤ses.length:=by have:=(e5 j hj).1;unfold sz at this;rw[hd]at this;exact this
 refine⟨ses,hd,dw,fun e=>w.ic.not_self af (e▸fh),fun e=>w.ic.not_self af (e▸tr),fun e=>?_⟩;have:=dY (w.ic.only cc af fh).2.1 am hj e.symm;omega
theorem Wk.delRound(w:Wk f t H)(p:aN f t H P b (h+1) lo hi)(hr:cD f t H)(h3:P≠[]→3≤sz f.nodes b)(hm:Mem f.nodes (h+1) b key)(hs:Fo.stepDel f b key=some (g,c)):
  aW f g∧((2≤(look g b).2.length∧delAt (h+1) f t b key=delAt h g t c key∧Wk g t H∧∃P' lo' am,aN g t H P' c h lo' am∧(P'≠[]→3≤sz g.nodes c)∧cD g t H∧Mem g.nodes h c key) ∨
   ((look g b).2.length=1∧b=aB g t∧t<g.roots.length∧delAt (h+1) f t b key=delAt h (fallF g t b c) t c key∧∃H',Wk (fallF g t b c) t H'∧aN (fallF g t b c) t H' [] c h none none∧cD (fallF g t b c) t H'∧Mem (fallF g t b c).nodes h c key)):=by
 have st:=w.stepDel p hr h3 hm hs;refine⟨st.same,?_⟩;obtain⟨lo',am,pc⟩:=st.path;have hd:delAt (h+1) f t b key=if(look g b).2.length=1 then delAt h (fallF g t (aB g t) (kd (look g b).2 0)) t c key else delAt h g t c key:=by
  conv=>lhs;unfold delAt
  rw[hs]
 rcases st.many with⟨es,n1,n2⟩ | ⟨hP,e,n1,n2⟩
 ·left
  have hl:(look g b).2.length=es.length:=by rw[aE n1]
  rw[if_neg (by omega)]at hd;have er:cD g t H:=by
   rcases st.rt hr with q | ⟨_,e,q,_⟩
   ·exact q
   ·rw[n1]at q;cases q;simp at n2
  exact⟨by omega,hd,st.wk,_,lo',am,pc,fun _=>st.spare,er,st.mem⟩
 ·right
  have hl:(look g b).2.length=1:=by rw[aE n1];rfl
  have iw:kd (look g b).2 0=c:=by rw[aE n1];exact n2
  rw[if_pos hl,iw]at hd;subst hP;rcases st.up.top with⟨_,q,q'⟩ | ⟨q,_⟩
  ·subst q'
   have n1':=n1;rw[q]at n1;have en:cu g (aB g t)=1:=by have:=(st.up.named st.wk.ic st.wk.tl b List.mem_cons_self).1;rw[q]at this;exact this
   have jg:cu g (ch e)=1:=by rw[n2];exact(pc.named st.wk.ic st.wk.tl c List.mem_cons_self).1
   obtain⟨v1,v2,v3,v4,v5,v6⟩:=st.wk.fall n1 en jg;rw[n2]at v1 v2 v3 v4 v5 v6;rw[←q]at hd v1 v2 v4 v6;exact⟨hl,q,st.wk.tl,hd,_,v1,v2,v4,v6 key st.mem⟩
  ·cases q
theorem Wk.two(p:aN f t H P b (h+1) lo hi)(hr:cD f t H)(h3:P≠[]→3≤sz f.nodes b)(af:f.nodes b=some (2,es)):2≤es.length:=by
 by_cases hP:P=[]
 ·rcases p.top with⟨_,q,q'⟩ | ⟨q,_⟩
  ·rcases hr with hr | hr
   ·omega
   ·rw[←q]at hr;unfold sz at hr;rw[af]at hr;exact hr
  ·rw[hP]at q;cases q
 ·have:=h3 hP;unfold sz at this;rw[af]at this;simp only at this;omega
def mY(nodes:Nat→Option Nd):Nat→Nat→List Nat
 | 0,b=>(List.range (mH nodes b).length).map fun j=>5*b+j
 | h+1,b=>(mH nodes b).flatMap fun e=>mY nodes h (ch e)
def aCT(nodes:Nat→Option Nd)(c:Nat):ByteArray:=ky (mH nodes (c / 5)) (c % 5)
theorem xY(hI:IC f):∀{h b:Nat} {lo hi:OB},Ok f.nodes h b lo hi→(bJ f.nodes h b).map (fun p=>p.1)=(mY f.nodes h b).map (aCT f.nodes)∧∀c∈mY f.nodes h b,c<5*f.cur.length
 | 0,b,lo,hi,k=>by
  obtain⟨d,hd,_,h5,_⟩:=k.sz_pos;have hb:=hI.lt hd;have he:mH f.nodes b=d.2:=dF hd;unfold bJ mY;rw[he];constructor
  ·refine List.ext_getElem? fun j=>?_
   rw[List.getElem?_map,List.getElem?_map,List.getElem?_map,List.getElem?_map];by_cases hj:j<d.2.length
   ·rw[gE hj,List.getElem?_range hj]
    simp only[Option.map_some,sJ];unfold aCT;rw[show(5*b+j) / 5=b by omega,show(5*b+j) % 5=j by omega,he];unfold ky;rw[gD,gE hj];rfl
   ·rw[List.getElem?_eq_none (by omega),List.getElem?_eq_none (by simp;omega)];rfl
  ·intro c hc
   obtain⟨j,hj,rfl⟩:=List.mem_map.1 hc;have:=List.mem_range.1 hj;omega
 | h+1,b,lo,hi,k=>by
  obtain⟨es,h1,h2,h3,h4,h5⟩:=k;have he:mH f.nodes b=es:=dF h1;unfold bJ mY;rw[he];have key:∀e∈es,(bJ f.nodes h (ch e)).map (fun p=>p.1)=(mY f.nodes h (ch e)).map (aCT f.nodes)∧∀c∈mY f.nodes h (ch e),c<5*f.cur.length:=fun e hm=>by
   obtain⟨j,hj,rfl⟩:=cY hm;exact xY hI (h5 j hj).2
  constructor
  ·rw[List.map_flatMap,List.map_flatMap]
   have aux:∀l:List E3,(∀e∈l,e∈es)→l.flatMap (fun a=>(bJ f.nodes h (ch a)).map fun p=>p.1)=l.flatMap (fun a=>(mY f.nodes h (ch a)).map (aCT f.nodes)):=by
    intro l;induction l with
    | nil=>intro _;rfl
    | cons a l ih=>
     intro hl;rw[List.flatMap_cons,List.flatMap_cons,(key a (hl a List.mem_cons_self)).1,ih fun e he=>hl e (List.mem_cons_of_mem _ he)]
   exact aux es fun _ q=>q
  ·intro c hc
   obtain⟨e,EQ,vg⟩:=List.mem_flatMap.1 hc;exact(key e EQ).2 c vg
theorem vC(hI:IC f)(k:Ok f.nodes h b lo hi):(bJ f.nodes h b).length≤2560:=by
 obtain⟨h1,h2⟩:=xY hI k;have hs:=nM k;have hn:(mY f.nodes h b).Nodup:=by
  have h3:((bJ f.nodes h b).map fun p=>p.1).Pairwise fun p q=>kl p q=true:=List.pairwise_map.2 hs;rw[h1]at h3;have h4:=List.pairwise_map.1 h3;refine h4.imp fun {a b} pz e=>?_;rw[e,eD]at pz;cases pz
 have:=few (5*f.cur.length) _ hn h2
 have hl:=congrArg List.length h1;rw[List.length_map,List.length_map]at hl;have:=hI.n512;omega
theorem zW(w:Wk f t H)(p:aN f t H P b (h+1) lo hi)(hV:VE f)(hl:loR lo key)(hs:Fo.stepDown f b key=some (g,c)):VE g:=by
 obtain⟨es,af,qg,av⟩:=p.inner w;obtain⟨w1,p1,r1⟩:=w.lowKey p af key hl;have DM:VE (setN f b (2,lowK es key)):=hV.setN b (VL.lowK (hV b _ af) key);rw[pS af]at hs;generalize hK:lowK es key=es1 at *;have ep:(setN f b (2,es1)).nodes b=some (2,es1):=aD _ _ _;have d8:es1.length=es.length:=by rw[←hK];exact cK es key
 have lv:es1≠[]:=fun e=>av (List.length_eq_zero_iff.1 (by rw[←d8,e];rfl));have ew:bK es1 key<es1.length:=eE key lv;cases al:shadow (setN f b (2,es1)) (.ent b (bK es1 key))with
 | none=>rw[al]at hs;cases hs
 | some gc=>
  obtain⟨g1,c1⟩:=gc;rw[al]at hs;have sn:=DM.shadow_ent w1.ic ep ew al;simp only at hs;split at hs
  ·split at hs
   ·cases hs
   ·cases hs
    exact sn.splitF b (sn.look b) _ _ _ (sn.look c1) _ _ _
  ·cases hs;exact sn
theorem tR:∀{h:Nat} {f:fZ} (w:Wk f t H) {P:List Nat} {b:Nat} {lo hi:OB} (p:aN f t H P b h lo hi) (hl:loR lo key) (hh:hiR hi key) (h5:sz f.nodes b<5) (hV:VE f) {g:fZ} {th:Bool} (hs:Fo.putAt h f b key val=some (g,th)),VE g
 | 0,f,w,P,b,lo,hi,p,hl,hh,h5,hV,g,th,hs=>by
  obtain⟨es,af,hn,hc⟩:=p.leaf w;unfold Fo.putAt at hs;rw[aE af]at hs;simp only[sJ,Prod.mk.injEq]at hs;obtain⟨rfl,rfl⟩:=hs;exact hV.setN b (VL.putE (hV b _ af) key val hc)
 | h+1,f,w,P,b,lo,hi,p,hl,hh,h5,hV,g,th,hs=>by
  unfold Fo.putAt at hs;cases mm:Fo.stepDown f b key with
  | none=>rw[mm]at hs;cases hs
  | some gc=>
   obtain⟨g1,c1⟩:=gc;rw[mm]at hs;obtain⟨P',lo',am,w1,p1,l1,l2,l3,l4,l5⟩:=w.stepDown p hl hh h5 mm;exact tR w1 p1 l1 l2 l3 (zW w p hV hl mm) hs
theorem aLS(w:Wk f t H)(hV:VE f)(hs:Fo.put f t H key val=some (g,th)):VE g:=by
 unfold Fo.put at hs;cases al:shadow f (.root t)with
 | none=>rw[al]at hs;cases hs
 | some gr=>
  obtain⟨g1,r1⟩:=gr;rw[al]at hs;simp only at hs;have DM:=hV.shadow_root al;obtain⟨w1,p1,a1,a2,a3,a4,a5,a6⟩:=w.shadow_root al;obtain⟨⟨k,es⟩,hd⟩:=w1.ic.live (x:=r1) (by rw[a3];omega);have au:es.length≤5:=by
   obtain⟨d',d1,_,d2,_⟩:=((p1.ok w1.ok).1).sz_pos;rw[hd]at d1;cases d1;exact d2
  rw[aE hd]at hs;simp only at hs;by_cases hfull:es.length=5
  ·rw[if_pos hfull]at hs
   cases bm:bM g1 t r1 with
   | none=>rw[bm]at hs;cases hs
   | some kt=>
    obtain⟨g2,top⟩:=kt;rw[bm]at hs;simp only at hs;unfold bM at bm;rw[aE hd]at bm;simp only at bm;by_cases pf:aF g1=0
    ·rw[if_pos pf]at bm;cases bm
    ·rw[if_neg pf]at bm
     generalize hT:aF (takeAt (setN g1 r1 (k,es.take 3)) (aF g1) (k,es.drop 3))=tp at *;by_cases d8:tp=0
     ·rw[if_pos d8]at bm;cases bm
     ·rw[if_neg d8]at bm
      simp only[sJ,Prod.mk.injEq]at bm;obtain⟨rfl,rfl⟩:=bm;obtain⟨l1,l2,l3,l4⟩:=aR pf;obtain⟨m1,m2,m3,m4⟩:=aR (hT▸d8);rw[hT]at m1 m2 m3;have nk:∀x,cu (takeAt (setN g1 r1 (k,es.take 3)) (aF g1) (k,es.drop 3)) x=if aF g1=x then 1 else cu g1 x:=fun x=>dT (f:=setN g1 r1 (k,es.take 3)) (k,es.drop 3) l2 x;rw[nk]at m3;have su:tp≠aF g1:=fun e=>by rw[if_pos e.symm]at m3;omega
      rw[if_neg (Ne.symm su)]at m3;have m2':tp<g1.cur.length:=by simpa [takeAt,setN] using m2
      subst a1;obtain⟨w2,p2,b1,b2,b3⟩:=w1.grow a3 hd (m:=3) (by omega) (by omega) l1 l2 l3 m1 m2' m3 su;exact tR w2 p2 trivial trivial (by unfold sz;rw[b3];simp) (DM.growF _ _ _ (DM _ _ hd) _ _ _ _ _) hs
  ·rw[if_neg hfull]at hs
   exact tR w1 p1 trivial trivial (by unfold sz;rw[hd];simp only;omega) DM hs
theorem aBV(w:Wk f t H)(p:aN f t H P b (h+1) lo hi)(hV:VE f)(h2:2≤sz f.nodes b)(hs:Fo.stepDel f b key=some (g,c)):VE g:=by
 obtain⟨es,af,qg,av⟩:=p.inner w;have PK:2≤es.length:=by unfold sz at h2;rw[af]at h2;exact h2
 have ew:bK es key<es.length:=eE key av;unfold Fo.stepDel at hs;rw[aE af]at hs;simp only at hs;cases al:shadow f (.ent b (bK es key))with
 | none=>rw[al]at hs;cases hs
 | some gc=>
  obtain⟨g1,c1⟩:=gc;rw[al]at hs;have sn:=hV.shadow_ent w.ic af ew al;obtain⟨w1,p1,p2,⟨es',n1,n2,n3,n4⟩,_⟩:=w.shadow_ent p af ew al;simp only at hs;rw[aE n1]at hs;simp only at hs;split at hs
  ·cases hs;exact sn
  ·split at hs
   ·rename_i hn
    cases hf:fillNext g1 b (bK es key) c1 with
    | none=>rw[hf]at hs;cases hs
    | some k=>rw[hf]at hs;cases hs;exact sn.fillNext w1.ic n1 hn hf
   ·rename_i hn
    cases hf:fillLast g1 b (bK es key) c1 with
    | none=>rw[hf]at hs;cases hs
    | some k=>rw[hf]at hs;cases hs;exact sn.fillLast w1.ic n1 (by omega) (by omega) hf
theorem tP:∀{h H:Nat} {f:fZ} (w:Wk f t H) {P:List Nat} {b:Nat} {lo hi:OB} (p:aN f t H P b h lo hi) (h3:P≠[]→3≤sz f.nodes b) (hr:cD f t H) (hm:Mem f.nodes h b key) (hV:VE f) {g:fZ} (hs:Fo.delAt h f t b key=some g),VE g
 | 0,H,f,w,P,b,lo,hi,p,h3,hr,hm,hV,g,hs=>by
  obtain⟨es,af,hn,hc⟩:=p.leaf w;unfold Fo.delAt at hs;rw[aE af]at hs;simp only[sJ]at hs;subst hs;exact hV.setN b (VL.delE (hV b _ af) _)
 | h+1,H,f,w,P,b,lo,hi,p,h3,hr,hm,hV,g,hs=>by
  unfold Fo.delAt at hs;cases mm:Fo.stepDel f b key with
  | none=>rw[mm]at hs;cases hs
  | some gc=>
   obtain⟨g1,c⟩:=gc;rw[mm]at hs;simp only at hs;have h2:2≤sz f.nodes b:=by
    by_cases hP:P=[]
    ·rcases p.top with⟨_,q,q'⟩ | ⟨q,_⟩
     ·rcases hr with hr | hr
      ·omega
      ·rw[←q]at hr;exact hr
     ·subst hP;cases q
    ·have:=h3 hP;omega
   have DM:=aBV w p hV h2 mm;have st:=w.stepDel p hr h3 hm mm;obtain⟨lo',am,pc⟩:=st.path;rcases st.many with⟨es,n1,n2⟩ | ⟨hP,e,n1,n2⟩
   ·rw[aE n1]at hs
    simp only at hs
    rw[if_neg (by omega)]at hs;have er:cD g1 t H:=by
     rcases st.rt hr with q | ⟨_,e,q,_⟩
     ·exact q
     ·rw[n1]at q;cases q;simp at n2
    exact tP st.wk pc (fun _=>st.spare) er st.mem DM hs
   ·rw[aE n1]at hs
    rw[if_pos (show([e]:List E3).length=1 from rfl)]at hs;have iw:kd [e] 0=ch e:=rfl;rw[iw]at hs;subst hP;rcases st.up.top with⟨_,q,q'⟩ | ⟨q,_⟩
    ·subst q'
     rw[q]at n1;have en:cu g1 (aB g1 t)=1:=by have:=(st.up.named st.wk.ic st.wk.tl b List.mem_cons_self).1;rw[q]at this;exact this
     have jg:cu g1 (ch e)=1:=by rw[n2];exact(pc.named st.wk.ic st.wk.tl c List.mem_cons_self).1
     obtain⟨v1,v2,v3,v4,v5,v6⟩:=st.wk.fall n1 en jg;rw[n2]at v1 v2 v3 v4 v5 v6 hs;exact tP v1 v2 (fun q=>absurd rfl q) v4 (v6 key st.mem) (DM.fallF _ _ _) hs
    ·cases q
theorem qI(w:Wk f t H)(hm:Mem f.nodes H (aB f t) key){g1:fZ}{r:Nat}(al:shadow f (.root t)=some (g1,r)):Mem g1.nodes H r key:=by
 obtain⟨w1,p1,a1,a2,a3,a4,a5,a6⟩:=w.shadow_root al;unfold shadow at al;have hg:bI f (.root t)=aB f t:=rfl;rw[hg]at al;by_cases ho:own f (aB f t)
 ·rw[if_pos ho]at al;cases al;exact hm
 ·rw[if_neg ho]at al
  by_cases hl:aF f=0
  ·rw[if_pos hl]at al;cases al
  ·rw[if_neg hl]at al
   simp only[sJ,Prod.mk.injEq]at al;obtain⟨g9,yf⟩:=al;obtain⟨l1,l2,l3,_⟩:=aR hl;obtain⟨d,hd⟩:=w.ic.root_live (aO w.tl);have fy:f.nodes (aB f t)=some d:=hd;obtain⟨I1,I2,_⟩:=w.ic.shadow (L:=.root t) w.tl rfl hd l1 l2 l3;have de:f.nodes (aF f)=none:=(w.ic.dom.dead _).2 l3;have vq:g1.nodes=if cu f (aB f t)=1 then upd (upd f.nodes (aF f) (some d)) (aB f t) none else upd f.nodes (aF f) (some d):=by rw[←g9];exact I2
   let U:Nat→Prop:=fun x=>(∃d,f.nodes x=some d)∧(cu f (aB f t)=1→x≠aB f t)
   have lj:∀x d,U x→f.nodes x=some d→∀c∈kids d,U c:=fun x d' _ hx c bj=>
    ⟨w.ic.kid_live hx bj,fun h1 e=>(w.ic.onlyRoot (aO w.tl) h1).2 x d' hx (by have:c=(f.roots.getD t (0,0)).2.toNat:=e;rw[←this];exact bj)⟩
   have gd:∀x,U x→g1.nodes x=f.nodes x:=fun x ⟨⟨d',hx⟩,h1⟩=>by
    have Bz:x≠aF f:=fun e=>by rw[e,de]at hx;cases hx
    rw[vq];split
    ·rename_i nk;rw[aC _ _ (h1 nk),aC _ _ Bz]
    ·rw[aC _ _ Bz]
   have nr:g1.nodes r=some d:=by rw[a2];exact fy
   rw[bO nr];rw[bO fy]at hm;obtain⟨k,des⟩:=d;exact hm.more (fun e he=>he) fun c bj h' gy=>Mem.frame lj gd _ _ ⟨w.ic.kid_live fy bj,fun _ e=>w.ic.not_self fy (e▸bj)⟩ gy
theorem aFA(w:Wk f t H)(hr:cD f t H)(hm:Mem f.nodes H (aB f t) key)(hV:VE f)(hs:bV f t H key=some g):VE g:=by
 unfold bV at hs;cases al:shadow f (.root t)with
 | none=>rw[al]at hs;cases hs
 | some gr=>
  obtain⟨g1,r⟩:=gr;rw[al]at hs;simp only at hs;obtain⟨w1,p1,a1,a2,a3,a4,a5,a6⟩:=w.shadow_root al;exact tP w1 p1 (fun q=>absurd rfl q) (a5 hr) (qI w hm al) (hV.shadow_root al) hs
theorem aID(hV:VE f)(t:Nat):VE (cU f t):=hV.sub fun _ _ q=>q
theorem aKE(h:Inv f)(hV:VE f)(ht:t<f.roots.length)(h1:1<f.roots.length)(hk:Ok f.nodes H (aB f t) none none):VE (drop f t H).1:=hV.sub fun x d q=>by
 obtain⟨_,_,_,_,_,_,_,_,_,hn⟩:=wM h ht h1 hk;rcases hn x with e | e
 ·rw[←e];exact q
 ·rw[e]at q;cases q
theorem aFB(hV:VE f)(p:List Int):VE (dP f p):=hV.sub fun _ _ q=>q
theorem tQ(n:Nat):VE (aH n):=fun x d hx=>by
 have bq:(if x=2 then some ((1:Int),([]:List E3))else none)=some d:=hx;split at bq
 ·cases bq;exact VL.nil
 ·cases bq
theorem zC{nodes:Nat→Option Nd}:∀{h b:Nat} {lo hi:OB},Ok nodes h b lo hi→Mem nodes h b key→∃v,find nodes h b key=some v
 | 0,b,lo,hi,hk,hm=>by
  obtain⟨es,e1,e2,_⟩:=hk;obtain⟨es',f1,j,hj,f2⟩:=hm;rw[e1]at f1;cases f1;refine⟨(es.getD (cLt es key) e0).2.1,?_⟩;simp only[find,dF e1];rw[if_pos (jT e2.srt hj f2).1]
 | h+1,b,lo,hi,hk,hm=>by
  have qp:=hk;obtain⟨es,e1,e2,e3,e4,e5⟩:=hk;have ew:=eE key e3;obtain⟨v,hv⟩:=zC (e5 _ ew).2 (Mem.at e1 qp hm);exact⟨v,by simp only[find,dF e1];exact hv⟩
theorem aEI(w:Wk f t H)(hs:put f t H key val=some (g,th)):th=(find f.nodes H (aB f t) key).isSome:=by
 have h:=aEJ w hs;cases hf:find f.nodes H (aB f t) key with
 | none=>
  cases th with
  | false=>rfl
  | true=>
   obtain⟨v,hv⟩:=zC w.ok (h.1 rfl);rw[hf]at hv;cases hv
 | some v=>rw[h.2 (kQ w.ok hf)];rfl
theorem aDM{L:List Nat}(hn:L.Nodup)(h:∀x,x∈L↔x<f.cur.length∧0<cu f x∧co f x=0):L.length=dX f:=
 ((List.perm_ext_iff_of_nodup hn (lW f _)).2 fun x=>by rw[h x,kP]).length_eq
theorem uW(f:fZ):dX f≤f.cur.length:=kO f _
abbrev VW:=Int×Int×Int×Int×Int
def pU(f:fZ)(b:Nat)(dp:Int):VW:=((b:Int),dp,(look f b).1,((look f b).2.length:Int),cu f b)
def cG(f:fZ):Nat→Nat→Int→List VW
 | 0,b,dp=>[pU f b dp]
 | h+1,b,dp=>pU f b dp ::(look f b).2.flatMap fun e=>cG f h (ch e) (dp+1)
theorem eW(h:f.nodes b=some d):look f b=d:=by unfold look;rw[h];rfl
theorem aGH{β:Type}(l:List E3)(V:E3→List α)(I:E3→List β)(h:∀e∈l,(V e).length+1≤2*(I e).length):(l.flatMap V).length+l.length≤2*(l.flatMap I).length:=by
 induction l with
 | nil=>simp
 | cons a l ih=>
  have h1:=h a List.mem_cons_self;have h2:=ih fun e he=>h e (List.mem_cons_of_mem _ he);rw[List.flatMap_cons,List.flatMap_cons,lP,lP,List.length_cons];omega
theorem vW:∀{h b:Nat} {lo hi:OB},Ok f.nodes h b lo hi→∀dp:Int,2≤sz f.nodes b→(cG f h b dp).length+1≤2*(bJ f.nodes h b).length
 | 0,b,lo,hi,k,dp,hz=>by
  obtain⟨es,h1,_⟩:=k;have:sz f.nodes b=es.length:=by unfold sz;rw[h1]
  simp only[cG,bJ,dF h1,List.length_map,List.length_singleton];omega
 | h+1,b,lo,hi,k,dp,hz=>by
  obtain⟨es,h1,h2,h3,h4,h5⟩:=k;have bd:sz f.nodes b=es.length:=by unfold sz;rw[h1]
  have hf:=aGH es (fun e=>cG f h (ch e) (dp+1)) (fun e=>bJ f.nodes h (ch e)) fun e he=>by
   obtain⟨j,hj,rfl⟩:=cY he;exact vW (h5 j hj).2 (dp+1) (h5 j hj).1
  simp only[cG,bJ,dF h1,eW h1,List.length_cons];omega
theorem aFC(hI:IC f)(k:Ok f.nodes h b lo hi)(dp:Int)(hz:h=0∨2≤sz f.nodes b):(cG f h b dp).length≤5120:=by
 rcases hz with e | e
 ·subst e;simp[cG]
 ·have:=vW k dp e
  have:=vC hI k
  omega
theorem rQ{f g:E3→List α}:∀{l:List E3},(∀e∈l,f e=g e)→l.flatMap f=l.flatMap g
 | [],_=>rfl
 | a :: l,h=>by
  rw[List.flatMap_cons,List.flatMap_cons,h a List.mem_cons_self,rQ fun e he=>h e (List.mem_cons_of_mem _ he)]
def tS(f:fZ):Nat→Nat→Int→List VW
 | 0,b,dp=>[pU f b dp]
 | n+1,b,dp=>pU f b dp :: if(look f b).1=2 then(look f b).2.flatMap fun e=>tS f n (ch e) (dp+1)else []
theorem vV:∀{h b:Nat} {lo hi:OB},Ok f.nodes h b lo hi→∀(n:Nat) (dp:Int),h≤n→tS f n b dp=cG f h b dp
 | 0,b,lo,hi,k,n,dp,hn=>by
  obtain⟨es,h1,_⟩:=k;cases n with
  | zero=>rfl
  | succ n=>simp[tS,cG,eW h1]
 | h+1,b,lo,hi,k,n,dp,hn=>by
  obtain⟨es,h1,h2,h3,h4,h5⟩:=k;cases n with
  | zero=>omega
  | succ n=>
   simp only[tS,cG,eW h1,if_true];refine congrArg _ (rQ fun e he=>?_);obtain⟨j,hj,rfl⟩:=cY he;exact vV (h5 j hj).2 n (dp+1) (by omega)
theorem tT:∀{h b:Nat} {lo hi:OB},Ok f.nodes h b lo hi→∀dp:Int,h+1≤(cG f h b dp).length
 | 0,b,lo,hi,k,dp=>by simp[cG]
 | h+1,b,lo,hi,k,dp=>by
  obtain⟨es,h1,h2,h3,h4,h5⟩:=k;cases es with
  | nil=>exact absurd rfl h3
  | cons a es=>
   have:=tT (h5 0 (by simp)).2 (dp+1)
   simp only[cG,eW h1,List.length_cons,List.flatMap_cons,lP];have e:kd (a :: es) 0=ch a:=rfl;rw[e]at this;omega
def shp(f:fZ)(b:Nat):List VW:=tS f 6000 b 0
theorem aBK(hI:IC f)(k:Ok f.nodes h b none none)(hz:h=0∨2≤sz f.nodes b):shp f b=cG f h b 0∧h≤5120∧(cG f h b 0).length≤5120:=by
 have h1:=aFC hI k 0 hz;have h2:=tT k 0;exact⟨vV k 6000 0 (by omega),by omega,h1⟩
