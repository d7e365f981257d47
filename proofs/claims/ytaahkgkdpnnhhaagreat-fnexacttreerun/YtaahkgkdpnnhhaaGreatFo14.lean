import Derived.Test.YtaahkgkdpnnhhaaGreatFo11
set_option linter.all false
namespace Go.Proofs.YtaahkgkdpnnhhaaGreat.Fo
theorem Ok.low{nodes:Nat→Option Nd}{h b:Nat}{lo hi:OB}{k:Int}{es:List E3}(hd:nodes b=some (k,es))(hk:Ok nodes h b lo hi):Ok nodes h b (some (ky es 0)) hi:=by
 have nr:∀{es:List E3},eA es lo hi→eA es (some (ky es 0)) hi:=fun {es} e=>by
  refine⟨e.srt,fun j hj=>?_,e.hi,e.le5⟩;cases j with
  | zero=>exact eD _
  | succ j=>exact fH (e.srt 0 (j+1) (by omega) hj)
 cases h with
 | zero=>obtain⟨es',e1,e2,e3⟩:=hk;rw[hd]at e1;cases e1;exact⟨_,hd,nr e2,e3⟩
 | succ h=>obtain⟨es',e1,e2,e3⟩:=hk;rw[hd]at e1;cases e1;exact⟨_,hd,nr e2,e3⟩
theorem Wk.grow{f:fZ}{t H:Nat}(w:Wk f t H)(h1:cu f (aB f t)=1){k:Int}{es:List E3}(hd:f.nodes (aB f t)=some (k,es)){m q top:Nat}(hm:2≤m)(hm':m+2≤es.length)
  (hq2:2≤q) (hqn:q<f.cur.length) (hq:cu f q=0) (ht2:2≤top) (htn:top<f.cur.length) (htc:cu f top=0) (htq:top≠q):
  let f':=growF f t (aB f t) k es m q top (ky es 0) (ky es m)
  Wk f' t (H+1)∧aN f' t (H+1) [] top (H+1) none none∧aB f' t=top∧cD f' t (H+1)∧f'.nodes top=some (2,[(ky es 0,.empty,(aB f t:Int)),(ky es m,.empty,(q:Int))]):=by
 intro f';obtain⟨I1,I2⟩:=w.ic.grow (t:=t) (r:=aB f t) (m:=m) (ky es 0) (ky es m) w.tl rfl hd (by omega) (by omega) hq2 hqn hq ht2 htn htc htq;have hqd:f.nodes q=none:=(w.ic.dom.dead q).2 hq;have htd:f.nodes top=none:=(w.ic.dom.dead top).2 htc;have hrq:aB f t≠q:=fun e=>by rw[e,hqd]at hd;cases hd
 have hrt:aB f t≠top:=fun e=>by rw[e,htd]at hd;cases hd
 have ho:=w.ic.onlyRoot (aP w.tl) h1;have hr:aB f' t=top:=by
  show((f.roots.set t _).getD t (0,0)).2.toNat=top
  simp[gD,w.tl]
 have hru:∀u,u≠t→aB f' u=aB f u:=fun u hu=>by
  show((f.roots.set t _).getD u (0,0)).2.toNat=_
  unfold aB;simp only[gD,List.getElem?_set,if_neg (Ne.symm hu)]
 have ntop:f'.nodes top=some (2,[(ky es 0,.empty,(aB f t:Int)),(ky es m,.empty,(q:Int))]):=by rw[I2,aD]
 have nq:f'.nodes q=some (k,es.drop m):=by rw[I2,aC _ _ (Ne.symm htq),aD]
 have nr:f'.nodes (aB f t)=some (k,es.take m):=by rw[I2,aC _ _ hrt,aC _ _ hrq];exact aD _ _ _
 let U:Nat→Prop:=fun x=>(∃d,f.nodes x=some d)∧x≠aB f t
 have hUc:∀x d,U x→f.nodes x=some d→∀c∈kids d,U c:=fun x d' _ hx c hc'=>
  ⟨w.ic.kid_live hx hc',fun e=>ho.2 x d' hx (by have:c=(f.roots.getD t (0,0)).2.toNat:=e;rw[←this];exact hc')⟩
 have hUe:∀x,U x→f'.nodes x=f.nodes x:=fun x ⟨⟨d',hx⟩,h1⟩=>by
  have hxq:x≠q:=fun e=>by rw[e,hqd]at hx;cases hx
  have hxt:x≠top:=fun e=>by rw[e,htd]at hx;cases hx
  rw[I2,aC _ _ hxt,aC _ _ hxq];exact aC _ _ h1
 have fr:=Ok.frame hUc hUe;have hkids:∀c∈kids (k,es),∀h' lo' hi',Ok f.nodes h' c lo' hi'→Ok f'.nodes h' c lo' hi'∧sz f'.nodes c=sz f.nodes c:=fun c hc' h' lo' hi' hk=>by
  have hUk:U c:=⟨w.ic.kid_live hd hc',fun e=>w.ic.not_self hd (e▸hc')⟩;exact⟨fr _ _ _ _ hUk hk,by unfold sz;rw[hUe c hUk]⟩
 have okr:Ok f'.nodes H (aB f t) (some (ky es 0)) (some (ky es m)):=by
  have:=Ok.low nr (Ok.cutLow hd w.ok (by omega) (by omega) nr hkids)
  rw[eH (by omega)]at this;exact this
 have okq:Ok f'.nodes H q (some (ky es m)) none:=Ok.cutHigh hd w.ok (by omega) nq hkids;have hs:Srt es:=by
  obtain⟨d,d1,_,_,d4,_⟩:=w.ok.sz_pos;rw[hd]at d1;cases d1;exact d4
 have hsr:sz f'.nodes (aB f t)=m:=by unfold sz;rw[nr];exact len_take' (by omega)
 have hsq:sz f'.nodes q=es.length-m:=by unfold sz;rw[nq];exact List.length_drop
 refine⟨⟨I1,by show t <(f.roots.set t _).length;simpa using w.tl,?_,fun u hu hut=>?_⟩,?_,hr,?_,ntop⟩
 ·rw[hr]
  refine⟨_,ntop,⟨?_,fun _ _=>trivial,fun _ _=>trivial,by simp⟩,by simp,?_,?_⟩
  ·intro i j hij hj
   simp only[List.length_cons,List.length_nil]at hj;obtain rfl:i=0:=by omega
   obtain rfl:j=1:=by omega
   exact hs 0 m (by omega) (by omega)
  ·intro i hi
   simp only[List.length_cons,List.length_nil]at hi;obtain rfl | rfl:i=0∨i=1:=by omega
   ·rfl
   ·rfl
  ·intro i hi
   simp only[List.length_cons,List.length_nil]at hi;obtain rfl | rfl:i=0∨i=1:=by omega
   ·have e1:kd [(ky es 0,.empty,(aB f t:Int)),(ky es m,.empty,(q:Int))] 0=aB f t:=by simp[kd,ch]
    rw[e1];exact⟨by rw[hsr];exact hm,okr⟩
   ·have e1:kd [(ky es 0,.empty,(aB f t:Int)),(ky es m,.empty,(q:Int))] 1=q:=by simp[kd,ch]
    rw[e1];exact⟨by rw[hsq];omega,okq⟩
 ·have hu:u<f.roots.length:=by have:u <(f.roots.set t _).length:=hu;simpa using this
  obtain⟨h,g1,g2⟩:=w.oth u hu hut;have hUu:U (aB f u):=⟨w.ic.root_live (aP hu),nA w.ic w.tl hu hut h1⟩;refine⟨h,by rw[hru u hut];exact fr _ _ _ _ hUu g1,?_⟩;rcases g2 with g2 | g2
  ·exact .inl g2
  ·refine .inr ?_
   unfold sz at g2 ⊢;rw[hru u hut,hUe _ hUu];exact g2
 ·have:=aN.here (f:=f') (t:=t) (H:=H+1) (by
   rw[hr];exact(dT (f:=takeAt (setN f (aB f t) (k,es.take m)) q (k,es.drop m)) (2,[(ky es 0,.empty,(aB f t:Int)),(ky es m,.empty,(q:Int))]) (by simpa [takeAt,setN] using htn) top).trans (if_pos rfl))
  rw[hr]at this;exact this
 ·refine .inr ?_
  rw[hr];unfold sz;rw[ntop];simp
def fG(es:List E3)(key:ByteArray):Bool:=decide (cLt es key<es.length) && (ky es (cLt es key)).toList == key.toList
theorem dF(es:List E3)(key:ByteArray):fG es key=true↔cLt es key<es.length∧ky es (cLt es key)=key:=by
 unfold fG;rw[Bool.and_eq_true,decide_eq_true_eq,beq_iff_eq];exact⟨fun⟨a,b⟩=>⟨a,gP b⟩,fun⟨a,b⟩=>⟨a,by rw[b]⟩⟩
def putE(es:List E3)(key val:ByteArray):List E3:=
 if fG es key=true then es.set (cLt es key) ((es.getD (cLt es key) e0).1,val,(es.getD (cLt es key) e0).2.2)else insE es (cLt es key) (key,val,0)
theorem zT(es:List E3)(key val:ByteArray):(putE es key val).length=if fG es key=true then es.length else es.length+1:=by
 unfold putE;split
 ·simp
 ·exact iO _ _ _
theorem aDW{es:List E3}{lo hi:OB}(h:eA es lo hi)(h5:es.length<5)(key val:ByteArray)(hl:loR lo key)(hh:hiR hi key):eA (putE es key val) lo hi:=by
 have hcl:=kU es key;unfold putE;split
 ·rename_i hk
  obtain⟨k1,k2⟩:=(dF es key).1 hk;have hky:∀j,ky (es.set (cLt es key) ((es.getD (cLt es key) e0).1,val,(es.getD (cLt es key) e0).2.2)) j=ky es j:=fun j=>by
   unfold ky;rw[bA _ _ _ _ _ k1];by_cases e:j=cLt es key
   ·rw[if_pos e,e]
   ·rw[if_neg e]
  refine⟨fun i j hij hj=>?_,fun j hj=>?_,fun j hj=>?_,by simpa using h.le5⟩
  ·rw[hky,hky];exact h.srt i j hij (by simpa using hj)
  ·rw[hky];exact h.lo j (by simpa using hj)
  ·rw[hky];exact h.hi j (by simpa using hj)
 ·rename_i hk
  have hky:=aCQ (es:=es) hcl (key,val,0);have lt1:∀j,j<cLt es key→kl (ky es j) key=true:=fun j hj=>(gV h.srt key (by omega)).2 hj;have gt1:∀j,cLt es key≤j→j<es.length→kl key (ky es j)=true:=fun j hj hjl=>by
   have n1:∀j,cLt es key≤j→j<es.length→kl (ky es j) key=false:=fun j hj hjl=>by
    cases e:kl (ky es j) key with
    | false=>rfl
    | true=>have:=(gV h.srt key hjl).1 e;omega
   have n2:kl key (ky es (cLt es key))=true:=by
    rcases kV (n1 (cLt es key) (nR _) (by omega))with q | q
    ·exact absurd ((dF es key).2 ⟨by omega,q⟩) hk
    ·exact q
   by_cases e:j=cLt es key
   ·rw[e];exact n2
   ·exact kG n2 (h.srt _ _ (by omega) hjl)
  refine⟨fun i j hij hj=>?_,fun j hj=>?_,fun j hj=>?_,by rw[iO];omega⟩
  ·rw[iO]at hj
   rw[hky,hky];by_cases a1:i<cLt es key
   ·rw[if_pos a1]
    by_cases c1:j<cLt es key
    ·rw[if_pos c1];exact h.srt i j hij (by omega)
    ·rw[if_neg c1]
     by_cases c2:j=cLt es key
     ·rw[if_pos c2];exact lt1 i a1
     ·rw[if_neg c2];exact h.srt i (j-1) (by omega) (by omega)
   ·rw[if_neg a1,if_neg (show ¬j<cLt es key by omega),if_neg (show ¬j=cLt es key by omega)]
    by_cases a2:i=cLt es key
    ·rw[if_pos a2];exact gt1 _ (by omega) (by omega)
    ·rw[if_neg a2];exact h.srt _ _ (by omega) (by omega)
  ·rw[iO]at hj
   rw[hky];split
   ·exact h.lo j (by omega)
   ·split
    ·exact hl
    ·exact h.lo _ (by omega)
  ·rw[iO]at hj
   rw[hky];split
   ·exact h.hi j (by omega)
   ·split
    ·exact hh
    ·exact h.hi _ (by omega)
theorem Wk.leaf{f:fZ}{t H:Nat}(w:Wk f t H){P:List Nat}{b:Nat}{lo hi:OB}(p:aN f t H P b 0 lo hi){es es':List E3}(hes:f.nodes b=some (1,es))(hn:eA es' lo hi)(hc:∀i,i<es'.length→(es'.getD i e0).2.2=0)(hz:P≠[]→2≤es'.length):
  Wk (setN f b (1,es')) t H∧(cD f t H→cD (setN f b (1,es')) t H):=by
 have hI:IC (setN f b (1,es')):=w.ic.keys hes (by simp[aFY]) fun q=>by simp at q
 have hnb:(setN f b (1,es')).nodes b=some (1,es'):=aD _ _ _;have hoff:∀x,x≠b→(setN f b (1,es')).nodes x=f.nodes x:=fun x hx=>aC _ _ hx;refine⟨w.step p hI rfl hes (fun _=>False) (fun _ q=>q.elim) (fun x d hx hxb _=>by rw[hoff x hxb];exact hx) ⟨es',hnb,hn,hc⟩ (fun hP=>by unfold sz;rw[hnb];exact hz hP),fun hr=>?_⟩;refine p.rt rfl (fun y hy=>hoff y fun e=>?_) (fun h0 hP=>?_) hr
 ·obtain⟨ht',hh⟩:=w.ic.ht
  have:=p.high hh y hy;rw[e]at this;omega
 ·rcases p.top with⟨_,_,q⟩ | ⟨q,_⟩
  ·omega
  ·rw[hP]at q;cases q
def aF(f:fZ):Nat:=((List.range f.cur.length).find? fun b=>decide (2≤b) && (cu f b == 0) && (co f b == 0)).getD 0
theorem aQ{f:fZ}(h:aF f≠0):2≤aF f∧aF f<f.cur.length∧cu f (aF f)=0∧co f (aF f)=0:=by
 unfold aF at h ⊢;cases e:(List.range f.cur.length).find? fun b=>decide (2≤b) && (cu f b == 0) && (co f b == 0)with
 | none=>rw[e]at h;exact absurd rfl h
 | some q=>
  have h1:=List.find?_some e;have h2:=List.mem_of_find?_eq_some e;simp only[Bool.and_eq_true,decide_eq_true_eq,beq_iff_eq]at h1;simp only[Option.getD_some];exact⟨h1.1.1,by simpa using h2,h1.1.2,h1.2⟩
structure aW(f f':fZ):Prop where
 next:f'.next=f.next
 gen:f'.gen=f.gen
 com:f'.com=f.com
 table:f'.table=f.table
 cur:f'.cur.length=f.cur.length
 ids:f'.roots.map Prod.fst=f.roots.map Prod.fst
theorem aW.refl(f:fZ):aW f f:=⟨rfl,rfl,rfl,rfl,rfl,rfl⟩
theorem aW.trans{f g k:fZ}(a:aW f g)(b:aW g k):aW f k:=
 ⟨b.next.trans a.next,b.gen.trans a.gen,b.com.trans a.com,b.table.trans a.table,b.cur.trans a.cur,b.ids.trans a.ids⟩
theorem aW.setN(f:fZ)(b:Nat)(d:Nd):aW f (setN f b d):=⟨rfl,rfl,rfl,rfl,rfl,rfl⟩
theorem aW.takeAt(f:fZ)(b:Nat)(d:Nd):aW f (takeAt f b d):=⟨rfl,rfl,rfl,rfl,by simp[Fo.takeAt],rfl⟩
theorem aW.freeB(f:fZ)(b:Nat):aW f (freeB f b):=⟨rfl,rfl,rfl,rfl,by simp[Fo.freeB],rfl⟩
theorem aW.letGo(f:fZ)(b:Nat):aW f (letGo f b):=by
 refine⟨?_,?_,lX f b,?_,hZ f b,by rw[dU]⟩<;>(unfold Fo.letGo;split<;>rfl)
theorem aW.setL(f:fZ)(L:Loc)(q:Nat):aW f (setL f L q):=by
 cases L with
 | inr bi=>obtain⟨b,i⟩:=bi;exact aW.setN f b _
 | inl t=>
  refine⟨rfl,rfl,rfl,rfl,rfl,?_⟩;show(f.roots.set t _).map Prod.fst=_
  rw[List.map_set];refine List.ext_getElem? fun j=>?_;rw[List.getElem?_set];split
  ·rename_i h;subst h
   by_cases hl:t<f.roots.length
   ·simp[gD,hl]
   ·simp[hl]
  ·rfl
theorem aW.shadowAt(f:fZ)(L:Loc)(q:Nat):aW f (shadowAt f L q):=((aW.takeAt f q _).trans (aW.setL _ L q)).trans (aW.letGo _ _)
theorem aW.splitF(f:fZ)(p:Nat)(pes:List E3)(a c:Nat)(k:Int)(ces:List E3)(m q:Nat)(key:ByteArray):aW f (splitF f p pes a c k ces m q key):=((aW.setN f _ _).trans (aW.takeAt _ _ _)).trans (aW.setN _ _ _)
theorem aW.growF(f:fZ)(t r:Nat)(k:Int)(es:List E3)(m q top:Nat)(k0 k1:ByteArray):aW f (growF f t r k es m q top k0 k1):=(((aW.setN f _ _).trans (aW.takeAt _ _ _)).trans (aW.takeAt _ _ _)).trans (aW.setL _ _ _)
theorem aW.mergeF(f:fZ)(p c s:Nat)(k:Int)(ces pes:List E3):aW f (mergeF f p c s k ces pes):=((aW.setN f _ _).trans (aW.setN _ _ _)).trans (aW.letGo _ _)
theorem aW.moveF(f:fZ)(p c s:Nat)(k:Int)(ces ses pes:List E3):aW f (moveF f p c s k ces ses pes):=((aW.setN f _ _).trans (aW.setN _ _ _)).trans (aW.setN _ _ _)
theorem aW.fallF(f:fZ)(t r c:Nat):aW f (fallF f t r c):=(aW.freeB f r).trans (aW.setL _ _ _)
theorem aW.len{f f':fZ}(h:aW f f'):f'.roots.length=f.roots.length:=by simpa using congrArg List.length h.ids
abbrev own(f:fZ)(b:Nat):Prop:=cu f b=1∧co f b=0
def shadow(f:fZ)(L:Loc):Option (fZ×Nat):=
 if own f (bJ f L)then some (f,bJ f L)else if aF f=0 then none else some (shadowAt f L (aF f),aF f)
def stepDown(f:fZ)(b:Nat)(key:ByteArray):Option (fZ×Nat):=
 match shadow (setN f b (2,lowK (look f b).2 key)) (.ent b (bK (lowK (look f b).2 key) key))with
 | none=>none
 | some (g,c)=>
  if(look g c).2.length=5 then
   if aF g=0 then none else
    some (splitF g b (look g b).2 (bK (lowK (look f b).2 key) key) c (look g c).1 (look g c).2 3 (aF g) (ky (look g c).2 3),if kl key (ky (look g c).2 3)=true then c else aF g)
  else some (g,c)
def putAt:Nat→fZ→Nat→ByteArray→ByteArray→Option (fZ×Bool)
 | 0,f,b,key,val=>some (setN f b (1,putE (look f b).2 key val),fG (look f b).2 key)
 | h+1,f,b,key,val=>match stepDown f b key with
  | none=>none
  | some (g,c)=>putAt h g c key val
def bM(f:fZ)(t r:Nat):Option (fZ×Nat):=
 if aF f=0 then none else
 if aF (takeAt (setN f r ((look f r).1,(look f r).2.take 3)) (aF f) ((look f r).1,(look f r).2.drop 3))=0 then none else
  some (growF f t r (look f r).1 (look f r).2 3 (aF f) (aF (takeAt (setN f r ((look f r).1,(look f r).2.take 3)) (aF f) ((look f r).1,(look f r).2.drop 3))) (ky (look f r).2 0) (ky (look f r).2 3),
   aF (takeAt (setN f r ((look f r).1,(look f r).2.take 3)) (aF f) ((look f r).1,(look f r).2.drop 3)))
def put(f:fZ)(t H:Nat)(key val:ByteArray):Option (fZ×Bool):=
 match shadow f (.root t)with
 | none=>none
 | some (g,r)=>
  if(look g r).2.length=5 then
   match bM g t r with
   | none=>none
   | some (k,top)=>putAt (H+1) k top key val
  else putAt H g r key val
theorem Wk.shadow_ent{f:fZ}{t H:Nat}(w:Wk f t H){P:List Nat}{b h:Nat}{lo hi:OB}(p:aN f t H P b (h+1) lo hi){es:List E3}(hes:f.nodes b=some (2,es)){i:Nat}(hi':i<es.length){g:fZ}{c:Nat}(hs:shadow f (.ent b i)=some (g,c)):
  Wk g t H∧aN g t H P b (h+1) lo hi∧aN g t H (b :: P) c h (some (ky es i)) (nxt es i hi)∧(∃es',g.nodes b=some (2,es')∧es'.length=es.length∧(∀j,ky es' j=ky es j)∧kd es' i=c)∧g.nodes c=f.nodes (kd es i)∧cu g c=1∧co g c=0∧(cD f t H→cD g t H)∧aW f g:=by
 have hg:bJ f (.ent b i)=kd es i:=by simp only[bJ,aE hes];rfl
 unfold shadow at hs;rw[hg]at hs;by_cases ho:own f (kd es i)
 ·rw[if_pos ho]at hs;cases hs
  exact⟨w,p,aN.down p hes hi' ho.1,⟨es,hes,rfl,fun _=>rfl,rfl⟩,rfl,ho.1,ho.2,id,aW.refl _⟩
 ·rw[if_neg ho]at hs
  by_cases hl:aF f=0
  ·rw[if_pos hl]at hs;cases hs
  ·rw[if_neg hl]at hs;cases hs
   obtain⟨l1,l2,l3,l4⟩:=aQ hl;obtain⟨d,hd⟩:=w.ic.kid_live hes (aO hi');obtain⟨a1,a2,a3,a4,a5,a6,a7,a8,a9⟩:=w.shadowEnt p hes hi' hd l1 l2 l3;refine⟨a1,a2,a3,⟨_,a4,by simp,fun j=>?_,?_⟩,by rw[a5,hd],a6,?_,a9,aW.shadowAt f _ _⟩
   ·simp only[ky];rw[bA _ _ _ _ _ hi']
    by_cases e:j=i
    ·rw[if_pos e,e]
    ·rw[if_neg e]
   ·simp only[kd];rw[bA _ _ _ _ _ hi',if_pos rfl];simp[ch]
   ·unfold co;rw[a7];exact l4
theorem Wk.shadow_root{f:fZ}{t H:Nat}(w:Wk f t H){g:fZ}{r:Nat}(hs:shadow f (.root t)=some (g,r)):
  Wk g t H∧aN g t H [] r H none none∧aB g t=r∧g.nodes r=f.nodes (aB f t)∧cu g r=1∧co g r=0∧(cD f t H→cD g t H)∧aW f g:=by
 have hg:bJ f (.root t)=aB f t:=rfl;unfold shadow at hs;rw[hg]at hs;by_cases ho:own f (aB f t)
 ·rw[if_pos ho]at hs;cases hs
  exact⟨w,aN.here ho.1,rfl,rfl,ho.1,ho.2,id,aW.refl _⟩
 ·rw[if_neg ho]at hs
  by_cases hl:aF f=0
  ·rw[if_pos hl]at hs;cases hs
  ·rw[if_neg hl]at hs;cases hs
   obtain⟨l1,l2,l3,l4⟩:=aQ hl;obtain⟨d,hd⟩:=w.ic.root_live (aP w.tl);obtain⟨a1,a2,a3,a4,a5,a6,a7⟩:=w.shadowRoot hd l1 l2 l3;have hc:cu (shadowAt f (.root t) (aF f)) (aF f)=1:=by
    have:=(a2.named a1.ic a1.tl (aF f) List.mem_cons_self).1;exact this
   refine⟨a1,a2,a3,a4.trans hd.symm,hc,?_,a7,aW.shadowAt f _ _⟩;unfold co;rw[a5];exact l4
theorem aN.inner{f:fZ}{t H:Nat}(w:Wk f t H){P:List Nat}{b h:Nat}{lo hi:OB}(p:aN f t H P b (h+1) lo hi):∃es,f.nodes b=some (2,es)∧eA es lo hi∧es≠[]:=by
 obtain⟨es,e1,e2,e3,_⟩:=(p.ok w.ok).1;exact⟨es,e1,e2,e3⟩
theorem aN.leaf{f:fZ}{t H:Nat}(w:Wk f t H){P:List Nat}{b:Nat}{lo hi:OB}(p:aN f t H P b 0 lo hi):∃es,f.nodes b=some (1,es)∧eA es lo hi∧∀i,i<es.length→(es.getD i e0).2.2=0:=(p.ok w.ok).1
theorem Wk.stepDown{f:fZ}{t H:Nat}(w:Wk f t H){P:List Nat}{b h:Nat}{lo hi:OB}(p:aN f t H P b (h+1) lo hi){key:ByteArray}(hl:loR lo key)(hh:hiR hi key)(h5:sz f.nodes b<5){g:fZ}{c:Nat}(hs:stepDown f b key=some (g,c)):
  ∃P' lo' hi',Wk g t H∧aN g t H P' c h lo' hi'∧loR lo' key∧hiR hi' key∧sz g.nodes c<5∧(cD f t H→cD g t H)∧aW f g:=by
 obtain⟨es,hes,hnr,hne⟩:=p.inner w;have hz:es.length<5:=by unfold sz at h5;rw[hes]at h5;exact h5
 obtain⟨w1,p1,r1⟩:=w.lowKey p hes key hl;unfold Fo.stepDown at hs;rw[aE hes]at hs;simp only at hs;generalize hK:lowK es key=es1 at *;have hes1:(setN f b (2,es1)).nodes b=some (2,es1):=aD _ _ _;have hl1:es1.length=es.length:=by rw[←hK];exact cH es key
 have hne1:es1≠[]:=fun e=>hne (List.length_eq_zero_iff.1 (by rw[←hl1,e];rfl));obtain⟨_,q1,hnr1,_⟩:=p1.inner w1;rw[hes1]at q1;cases q1;generalize hI:bK es1 key=i at *;have hil:i<es1.length:=by rw[←hI];exact eE key hne1
 have hlo:loR (some (ky es1 i)) key:=by
  rw[←hI];exact aJK hnr1.srt key (by rw[←hK];exact(vC es key hne).1) hne1
 have hhi:hiR (nxt es1 i hi) key:=by
  by_cases e:i+1<es1.length
  ·rw[cI _ e];exact aIX hnr1.srt key e (by omega)
  ·rw[eN _ e];exact hh
 cases hsh:shadow (setN f b (2,es1)) (.ent b i)with
 | none=>rw[hsh]at hs;cases hs
 | some gc=>
  obtain⟨g1,c1⟩:=gc;rw[hsh]at hs;simp only at hs;obtain⟨w2,p2,p3,⟨es2,m1,m2,m3,m4⟩,m5,m6,m7,m8,m9⟩:=w1.shadow_ent p1 hes1 hil hsh;have hsame:=(aW.setN f b (2,es1)).trans m9;obtain⟨⟨k,ces⟩,hd⟩:=w2.ic.live (x:=c1) (by rw[m6];omega);have hcl:ces.length≤5:=by
   obtain⟨d',d1,_,d2,_⟩:=((p3.ok w2.ok).1).sz_pos;rw[hd]at d1;cases d1;exact d2
  rw[aE hd]at hs;simp only at hs;by_cases hfull:ces.length=5
  ·rw[if_pos hfull]at hs
   by_cases hlw:aF g1=0
   ·rw[if_pos hlw]at hs;cases hs
   ·rw[if_neg hlw,aE m1]at hs
    simp only at hs
    obtain⟨l1,l2,l3,l4⟩:=aQ hlw;have hs4:i<es2.length:=by rw[m2];exact hil
    obtain⟨w4,p4,p5,p6,n1,n2,n3,n4⟩:=w2.split p2 m1 (by rw[m2,hl1];exact hz) hs4 (by rw[m4];exact hd) (by rw[m4];exact m6) (m:=3) (by omega) (by omega) l1 l2 l3;rw[m4]at w4 p4 p5 p6 n1 n2 n3 n4;simp only[sJ,Prod.mk.injEq]at hs;obtain⟨rfl,rfl⟩:=hs;have hnx:nxt es2 i hi=nxt es1 i hi:=by unfold nxt;rw[m2,m3]
    by_cases hkl:kl key (ky ces 3)=true
    ·rw[if_pos hkl]
     refine⟨_,_,_,w4,p5,by rw[m3];exact hlo,hkl,?_,fun hr=>n4 (m8 (r1 hr)),hsame.trans (aW.splitF ..)⟩;unfold sz;rw[n2];simp only[List.length_take];omega
    ·rw[if_neg hkl]
     refine⟨_,_,_,w4,p6,Bool.eq_false_iff.2 hkl,by rw[hnx];exact hhi,?_,fun hr=>n4 (m8 (r1 hr)),hsame.trans (aW.splitF ..)⟩;unfold sz;rw[n3];simp only[List.length_drop];omega
  ·rw[if_neg hfull]at hs
   simp only[sJ,Prod.mk.injEq]at hs;obtain⟨rfl,rfl⟩:=hs;refine⟨_,_,_,w2,p3,hlo,hhi,?_,fun hr=>m8 (r1 hr),hsame⟩;unfold sz;rw[hd];simp only;omega
theorem sI{t H:Nat}{key val:ByteArray}:∀{h:Nat} {f:fZ} (w:Wk f t H) {P:List Nat} {b:Nat} {lo hi:OB} (p:aN f t H P b h lo hi) (hl:loR lo key) (hh:hiR hi key) (h5:sz f.nodes b<5) (hr:cD f t H) {g:fZ} {th:Bool} (hs:putAt h f b key val=some (g,th)),
  Wk g t H∧cD g t H∧aW f g
 | 0,f,w,P,b,lo,hi,p,hl,hh,h5,hr,g,th,hs=>by
  obtain⟨es,hes,hn,hc⟩:=p.leaf w;unfold putAt at hs;rw[aE hes]at hs;simp only[sJ,Prod.mk.injEq]at hs;obtain⟨rfl,rfl⟩:=hs;have hz:es.length<5:=by unfold sz at h5;rw[hes]at h5;exact h5
  have hcl:=kU es key;obtain⟨a1,a2⟩:=w.leaf p hes (aDW hn hz key val hl hh) (fun i hi'=>by
   rw[zT]at hi';unfold putE;split
   ·rename_i hk
    rw[if_pos hk]at hi';rw[bA _ _ _ _ _ ((dF es key).1 hk).1];split
    ·exact hc _ ((dF es key).1 hk).1
    ·exact hc i hi'
   ·rename_i hk
    rw[if_neg hk]at hi';rw[jI _ _ _ _ hcl];split
    ·exact hc i (by omega)
    ·split
     ·rfl
     ·exact hc _ (by omega)) (fun hP=>by
   have:=(p.ok w.ok).2 hP
   unfold sz at this;rw[hes]at this;simp only at this;rw[zT];split<;>omega)
  exact⟨a1,a2 hr,aW.setN _ _ _⟩
 | h+1,f,w,P,b,lo,hi,p,hl,hh,h5,hr,g,th,hs=>by
  unfold putAt at hs;cases hsd:stepDown f b key with
  | none=>rw[hsd]at hs;cases hs
  | some gc=>
   obtain⟨g1,c1⟩:=gc;rw[hsd]at hs;obtain⟨P',lo',hi',w1,p1,l1,l2,l3,l4,l5⟩:=w.stepDown p hl hh h5 hsd;obtain⟨a1,a2,a3⟩:=sI w1 p1 l1 l2 l3 (l4 hr) hs;exact⟨a1,a2,l5.trans a3⟩
theorem aAK{f:fZ}{t H:Nat}{key val:ByteArray}(w:Wk f t H)(hr:cD f t H){g:fZ}{th:Bool}(hs:put f t H key val=some (g,th)):∃H',Wk g t H'∧cD g t H'∧aW f g:=by
 unfold put at hs;cases hsh:shadow f (.root t)with
 | none=>rw[hsh]at hs;cases hs
 | some gr=>
  obtain⟨g1,r1⟩:=gr;rw[hsh]at hs;simp only at hs;obtain⟨w1,p1,a1,a2,a3,a4,a5,a6⟩:=w.shadow_root hsh;obtain⟨⟨k,es⟩,hd⟩:=w1.ic.live (x:=r1) (by rw[a3];omega);have hcl:es.length≤5:=by
   obtain⟨d',d1,_,d2,_⟩:=((p1.ok w1.ok).1).sz_pos;rw[hd]at d1;cases d1;exact d2
  rw[aE hd]at hs;simp only at hs;by_cases hfull:es.length=5
  ·rw[if_pos hfull]at hs
   cases hgr:bM g1 t r1 with
   | none=>rw[hgr]at hs;cases hs
   | some kt=>
    obtain⟨g2,top⟩:=kt;rw[hgr]at hs;simp only at hs;unfold bM at hgr;rw[aE hd]at hgr;simp only at hgr;by_cases hl0:aF g1=0
    ·rw[if_pos hl0]at hgr;cases hgr
    ·rw[if_neg hl0]at hgr
     generalize hT:aF (takeAt (setN g1 r1 (k,es.take 3)) (aF g1) (k,es.drop 3))=tp at *;by_cases hl1:tp=0
     ·rw[if_pos hl1]at hgr;cases hgr
     ·rw[if_neg hl1]at hgr
      simp only[sJ,Prod.mk.injEq]at hgr;obtain⟨rfl,rfl⟩:=hgr;obtain⟨l1,l2,l3,l4⟩:=aQ hl0;obtain⟨m1,m2,m3,m4⟩:=aQ (hT▸hl1);rw[hT]at m1 m2 m3;have hcu:∀x,cu (takeAt (setN g1 r1 (k,es.take 3)) (aF g1) (k,es.drop 3)) x=if aF g1=x then 1 else cu g1 x:=fun x=>dT (f:=setN g1 r1 (k,es.take 3)) (k,es.drop 3) l2 x;rw[hcu]at m3;have htq:tp≠aF g1:=fun e=>by rw[if_pos e.symm]at m3;omega
      rw[if_neg (Ne.symm htq)]at m3;have m2':tp<g1.cur.length:=by simpa [takeAt,setN] using m2
      subst a1;obtain⟨w2,p2,b1,b2,b3⟩:=w1.grow a3 hd (m:=3) (by omega) (by omega) l1 l2 l3 m1 m2' m3 htq;obtain⟨c1,c2,c3⟩:=sI w2 p2 trivial trivial (by unfold sz;rw[b3];simp) b2 hs;exact⟨_,c1,c2,(a6.trans (aW.growF ..)).trans c3⟩
  ·rw[if_neg hfull]at hs
   obtain⟨c1,c2,c3⟩:=sI w1 p1 trivial trivial (by unfold sz;rw[hd];simp only;omega) (a5 hr) hs;exact⟨_,c1,c2,a6.trans c3⟩
def OkN(nodes:Nat→Option Nd)(h:Nat)(d:Nd)(lo hi:OB):Prop:=match h with
 | 0=>d.1=1∧eA d.2 lo hi∧∀i,i<d.2.length→(d.2.getD i e0).2.2=0
 | h+1=>d.1=2∧eA d.2 lo hi∧d.2≠[]∧(∀i,i<d.2.length→(d.2.getD i e0).2.1=ByteArray.empty)∧
   ∀i,i<d.2.length→2≤sz nodes (kd d.2 i)∧Ok nodes h (kd d.2 i) (some (ky d.2 i)) (nxt d.2 i hi)
theorem dK{nodes:Nat→Option Nd}{h b:Nat}{lo hi:OB}{d:Nd}(hd:nodes b=some d):Ok nodes h b lo hi↔OkN nodes h d lo hi:=by
 obtain⟨k,es⟩:=d;cases h with
 | zero=>
  constructor
  ·rintro⟨es',e1,e2⟩;rw[hd]at e1;cases e1;exact⟨rfl,e2⟩
  ·rintro⟨e1,e2⟩;simp only at e1;subst e1;exact⟨es,hd,e2⟩
 | succ h=>
  constructor
  ·rintro⟨es',e1,e2⟩;rw[hd]at e1;cases e1;exact⟨rfl,e2⟩
  ·rintro⟨e1,e2⟩;simp only at e1;subst e1;exact⟨es,hd,e2⟩
theorem OkN.node{nodes:Nat→Option Nd}{h:Nat}{lo hi:OB}{d:Nd}(k:OkN nodes h d lo hi):eA d.2 lo hi:=by
 cases h with
 | zero=>exact k.2.1
 | succ h=>exact k.2.1
theorem OkN.kids{nodes nodes':Nat→Option Nd}{h:Nat}{lo hi:OB}{d:Nd}(k:OkN nodes h d lo hi)(hf:∀c∈kids d,∀h' lo' hi',Ok nodes h' c lo' hi'→Ok nodes' h' c lo' hi'∧sz nodes' c=sz nodes c):OkN nodes' h d lo hi:=by
 cases h with
 | zero=>exact k
 | succ h=>
  obtain⟨e1,e2,e3,e4,e5⟩:=k;refine⟨e1,e2,e3,e4,fun j hj=>?_⟩;obtain⟨kk,es⟩:=d;simp only at e1;subst e1;obtain⟨g1,g2⟩:=hf _ (aO hj) _ _ _ (e5 j hj).2;exact⟨by rw[g2];exact(e5 j hj).1,g1⟩
theorem OkN.join{nodes:Nat→Option Nd}{h:Nat}{lo hi:OB}{k:Int}{a b:List E3}{m m':ByteArray}(ka:OkN nodes h (k,a) lo (some m))(kb:OkN nodes h (k,b) (some m') hi)(hm:kl m' m=false)(ha:a≠[])(hb:b≠[])(h5:a.length+b.length≤5):OkN nodes h (k,a++b) lo hi:=by
 have na:=ka.node;have nb:=kb.node;simp only at na nb;have hb0:0<b.length:=List.length_pos_iff.2 hb;have hky:∀j,ky (a++b) j=if j<a.length then ky a j else ky b (j-a.length):=fun j=>by unfold ky;rw[cV];split<;>rfl
 have hkd:∀j,kd (a++b) j=if j<a.length then kd a j else kd b (j-a.length):=fun j=>by unfold kd;rw[cV];split<;>rfl
 have hm0:∀j,j<b.length→kl (ky b j) m=false:=fun j hj=>gN hm (nb.lo j hj);have hab:∀i j,i<a.length→j<b.length→kl (ky a i) (ky b j)=true:=fun i j hi hj=>lF (na.hi i hi) (hm0 j hj);have nr:eA (a++b) lo hi:=by
  refine⟨fun i j hij hj=>?_,fun j hj=>?_,fun j hj=>?_,by rw[lP];exact h5⟩
  ·rw[lP]at hj
   rw[hky,hky];by_cases i1:i<a.length
   ·rw[if_pos i1]
    by_cases j1:j<a.length
    ·rw[if_pos j1];exact na.srt i j hij j1
    ·rw[if_neg j1];exact hab _ _ i1 (by omega)
   ·rw[if_neg i1,if_neg (by omega)];exact nb.srt _ _ (by omega) (by omega)
  ·rw[lP]at hj
   rw[hky];split
   ·exact na.lo j (by assumption)
   ·cases lo with
    | none=>trivial
    | some l=>
     have ha0:0<a.length:=List.length_pos_iff.2 ha;exact gN (na.lo 0 ha0) (fH (hab 0 _ ha0 (by omega)))
  ·rw[lP]at hj
   rw[hky];split
   ·rename_i j1;exact sT (hab j 0 j1 hb0) (nb.hi 0 hb0)
   ·exact nb.hi _ (by omega)
 cases h with
 | zero=>
  refine⟨ka.1,nr,fun j hj=>?_⟩;simp only[lP]at hj;simp only;rw[cV];split
  ·exact ka.2.2 j (by assumption)
  ·exact kb.2.2 _ (by simp only;omega)
 | succ h=>
  obtain⟨e1,_,_,e4,e5⟩:=ka;obtain⟨_,_,_,f4,f5⟩:=kb;simp only at e1 e4 e5 f4 f5;refine⟨e1,nr,by simp[ha],fun j hj=>?_,fun j hj=>?_⟩
  ·simp only[lP]at hj
   simp only;rw[cV];split
   ·exact e4 j (by assumption)
   ·exact f4 _ (by omega)
  ·simp only[lP]at hj
   simp only
   rw[hkd,hky];by_cases j1:j<a.length
   ·rw[if_pos j1,if_pos j1]
    refine⟨(e5 j j1).1,?_⟩;by_cases j2:j+1<a.length
    ·rw[cI _ (by rw[lP];omega),hky,if_pos j2]
     have:=(e5 j j1).2
     rw[cI _ j2]at this;exact this
    ·have h':=(e5 j j1).2
     rw[eN _ j2]at h';rw[cI _ (by rw[lP];omega),hky,if_neg j2,show j+1-a.length=0 from by omega];exact h'.wide (fun _ q=>q) (fun x hx=>by have hx':kl x m=true:=hx;exact lF hx' (hm0 0 hb0))
   ·rw[if_neg j1,if_neg j1]
    refine⟨(f5 _ (by omega)).1,?_⟩;have:nxt (a++b) j hi=nxt b (j-a.length) hi:=by
     unfold nxt;rw[lP];by_cases j2:j+1<a.length+b.length
     ·rw[if_pos j2,if_pos (by omega),hky,if_neg (by omega),show j+1-a.length=j-a.length+1 from by omega]
     ·rw[if_neg j2,if_neg (by omega)]
    rw[this];exact(f5 _ (by omega)).2
theorem OkN.take{nodes:Nat→Option Nd}{h:Nat}{lo hi:OB}{k:Int}{es:List E3}(hk:OkN nodes h (k,es) lo hi){m:Nat}(hm:0<m)(hm':m<es.length):OkN nodes h (k,es.take m) lo (some (ky es m)):=by
 cases h with
 | zero=>
  obtain⟨e1,e,e3⟩:=hk;simp only at e1 e e3;refine⟨e1,⟨sF e.srt m (by omega),fun j hj=>?_,fun j hj=>?_,?_⟩,fun j hj=>?_⟩
  ·simp only at hj ⊢;rw[len_take' (by omega)]at hj;rw[eH hj];exact e.lo j (by omega)
  ·simp only at hj ⊢;rw[len_take' (by omega)]at hj;rw[eH hj];exact e.srt j m hj hm'
  ·simp only;rw[len_take' (by omega)];have:=e.le5;omega
  ·simp only at hj ⊢;rw[len_take' (by omega)]at hj;rw[fV _ _ _ hj];exact e3 j (by omega)
 | succ h=>
  obtain⟨e1,e,e3,e4,e5⟩:=hk;simp only at e1 e e3 e4 e5;refine⟨e1,⟨sF e.srt m (by omega),fun j hj=>?_,fun j hj=>?_,?_⟩,nY hm' hm,fun j hj=>?_,fun j hj=>?_⟩
  ·simp only at hj ⊢;rw[len_take' (by omega)]at hj;rw[eH hj];exact e.lo j (by omega)
  ·simp only at hj ⊢;rw[len_take' (by omega)]at hj;rw[eH hj];exact e.srt j m hj hm'
  ·simp only;rw[len_take' (by omega)];have:=e.le5;omega
  ·simp only at hj ⊢;rw[len_take' (by omega)]at hj;rw[fV _ _ _ hj];exact e4 j (by omega)
  ·simp only at hj ⊢;rw[len_take' (by omega)]at hj
   rw[aCY hj,eH hj];refine⟨(e5 j (by omega)).1,?_⟩;have:nxt (es.take m) j (some (ky es m))=nxt es j hi:=by
    rw[cI (es:=es) hi (by omega)];by_cases q:j+1<m
    ·rw[cI _ (by rw[len_take' (by omega)];exact q),eH q]
    ·rw[eN _ (by rw[len_take' (by omega)];exact q),show j+1=m from by omega]
   rw[this];exact(e5 j (by omega)).2
theorem OkN.drop{nodes:Nat→Option Nd}{h:Nat}{lo hi:OB}{k:Int}{es:List E3}(hk:OkN nodes h (k,es) lo hi){m:Nat}(hm':m<es.length):OkN nodes h (k,es.drop m) (some (ky es m)) hi:=by
 have nr:eA es lo hi→eA (es.drop m) (some (ky es m)) hi:=fun e=>by
  refine⟨zV e.srt m,fun j hj=>?_,fun j hj=>?_,?_⟩
  ·rw[List.length_drop]at hj;rw[gA]
   by_cases e0:j=0
   ·subst e0;exact eD _
   ·exact fH (e.srt m (m+j) (by omega) (by omega))
  ·rw[List.length_drop]at hj;rw[gA];exact e.hi _ (by omega)
  ·rw[List.length_drop];have:=e.le5;omega
 cases h with
 | zero=>
  obtain⟨e1,e,e3⟩:=hk;simp only at e1 e e3;refine⟨e1,nr e,fun j hj=>?_⟩;simp only at hj ⊢;rw[List.length_drop]at hj;rw[eU];exact e3 _ (by omega)
 | succ h=>
  obtain⟨e1,e,e3,e4,e5⟩:=hk;simp only at e1 e e3 e4 e5;refine⟨e1,nr e,nJ hm',fun j hj=>?_,fun j hj=>?_⟩
  ·simp only at hj ⊢;rw[List.length_drop]at hj;rw[eU];exact e4 _ (by omega)
  ·simp only at hj ⊢;rw[List.length_drop]at hj
   rw[aDD,gA];refine⟨(e5 _ (by omega)).1,?_⟩;have:nxt (es.drop m) j hi=nxt es (m+j) hi:=by
    unfold nxt;rw[List.length_drop,gA];by_cases q:m+j+1<es.length
    ·rw[if_pos (by omega),if_pos q,show m+(j+1)=m+j+1 from by omega]
    ·rw[if_neg (by omega),if_neg q]
   rw[this];exact(e5 _ (by omega)).2
def Mem(nodes:Nat→Option Nd):Nat→Nat→ByteArray→Prop
 | 0,b,key=>∃es,nodes b=some (1,es)∧∃j,j<es.length∧ky es j=key
 | h+1,b,key=>∃es,nodes b=some (2,es)∧∃j,j<es.length∧Mem nodes h (kd es j) key
theorem Mem.frame{nodes nodes':Nat→Option Nd}{U:Nat→Prop}(hU:∀x d,U x→nodes x=some d→∀c∈Fo.kids d,U c)(he:∀x,U x→nodes' x=nodes x){key:ByteArray}:
  ∀h b,U b→Mem nodes h b key→Mem nodes' h b key
 | 0,b,hb,h=>by
  obtain⟨es,h1,h2⟩:=h;exact⟨es,(he b hb).trans h1,h2⟩
 | h+1,b,hb,hk=>by
  obtain⟨es,h1,j,hj,h2⟩:=hk;exact⟨es,(he b hb).trans h1,j,hj,Mem.frame hU he h _ (hU b _ hb h1 _ (aO hj)) h2⟩
theorem Mem.bounds{nodes:Nat→Option Nd}{key:ByteArray}:∀{h b:Nat} {lo hi:OB},Ok nodes h b lo hi→Mem nodes h b key→loR lo key∧hiR hi key
 | 0,b,lo,hi,hk,hm=>by
  obtain⟨es,e1,e2,_⟩:=hk;obtain⟨es',f1,j,hj,rfl⟩:=hm;rw[e1]at f1;cases f1;exact⟨e2.lo j hj,e2.hi j hj⟩
 | h+1,b,lo,hi,hk,hm=>by
  obtain⟨es,e1,e2,_,_,e5⟩:=hk;obtain⟨es',f1,j,hj,f2⟩:=hm;rw[e1]at f1;cases f1;obtain⟨g1,g2⟩:=Mem.bounds (e5 j hj).2 f2;constructor
  ·cases lo with
   | none=>trivial
   | some l=>exact gN (e2.lo j hj) g1
  ·by_cases q:j+1<es.length
   ·rw[cI _ q]at g2;exact sT g2 (e2.hi _ q)
   ·rw[eN _ q]at g2;exact g2
theorem Mem.at{nodes:Nat→Option Nd}{key:ByteArray}{h b:Nat}{lo hi:OB}{es:List E3}(hes:nodes b=some (2,es))(hk:Ok nodes (h+1) b lo hi)(hm:Mem nodes (h+1) b key):Mem nodes h (kd es (bK es key)) key:=by
 obtain⟨es',e1,e2,_,_,e5⟩:=hk;rw[hes]at e1;cases e1;obtain⟨es',f1,j,hj,f2⟩:=hm;rw[hes]at f1;cases f1;obtain⟨g1,g2⟩:=Mem.bounds (e5 j hj).2 f2;have:bK es key=j:=aCU e2.srt key hj g1 fun q=>by rw[cI _ q]at g2;exact g2
 rw[this];exact f2
