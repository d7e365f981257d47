import Derived.Test.YtaahkgkdpnnhhaaGreatFo13
set_option linter.all false
namespace Go.Proofs.YtaahkgkdpnnhhaaGreat.Fo
variable{key:ByteArray}{k:Int}{ces es es' les res:List E3}{P:List Nat}{H a b c h i t:Nat}{nodes:Nat→Option Nd}{hi lo:OB}{f g:fZ}
theorem aN.cl(h:IC f)(ht:t<f.roots.length){hb:Nat}(p:aN f t H P b hb lo hi)(af:f.nodes b=some (k,es))
  {nodes':Nat→Option Nd} (C:Nat→Prop) (hC:∀x,C x→cu f x=1∧x∈kids (k,es)) (hN:∀x d,f.nodes x=some d→x≠b→¬C x→nodes' x=some d):
  ∃U:Nat→Prop,(∀x d,U x→f.nodes x=some d→∀c∈kids d,U c)∧(∀x,U x→nodes' x=f.nodes x)∧∀x d,f.nodes x=some d→x∉b :: P→¬C x→U x:=by
 have J8:=p.named h ht;refine⟨fun x=>(∃d,f.nodes x=some d)∧x∉b :: P∧¬C x,fun x d ⟨_,pr,Hm⟩ hx c hc=>?_,fun x ⟨⟨d,hd⟩,pr,Hm⟩=>?_,fun x d hx h1 h2=>⟨⟨d,hx⟩,h1,h2⟩⟩
 ·refine⟨h.kid_live hx hc,fun hm=>?_,fun jh=>?_⟩
  ·exact pr (List.mem_cons_of_mem _ ((J8 c hm).2.1 x d hx hc))
  ·have:=(h.only (hC c jh).1 af (hC c jh).2).2.2 x d hx hc
   exact pr (this▸List.mem_cons_self)
 ·rw[hd];exact hN x d hd (fun e=>pr (e▸List.mem_cons_self)) Hm
def kL(nodes:Nat→Option Nd)(h:Nat)(d:Nd)(key:ByteArray):Prop:=match h with
 | 0=>d.1=1∧∃e∈d.2,e.1=key
 | h+1=>d.1=2∧∃e∈d.2,Mem nodes h (ch e) key
theorem bO{d:Nd}(hd:nodes b=some d):Mem nodes h b key↔kL nodes h d key:=by
 obtain⟨k,es⟩:=d;cases h with
 | zero=>
  constructor
  ·rintro⟨es',e1,j,hj,e2⟩;rw[hd]at e1;cases e1;exact⟨rfl,_,nG hj,e2⟩
  ·rintro⟨e1,e,he,e2⟩;simp only at e1 he;subst e1
   obtain⟨j,hj,rfl⟩:=cY he;exact⟨es,hd,j,hj,e2⟩
 | succ h=>
  constructor
  ·rintro⟨es',e1,j,hj,e2⟩;rw[hd]at e1;cases e1;exact⟨rfl,_,nG hj,e2⟩
  ·rintro⟨e1,e,he,e2⟩;simp only at e1 he;subst e1
   obtain⟨j,hj,rfl⟩:=cY he;exact⟨es,hd,j,hj,e2⟩
theorem kL.more{nodes':Nat→Option Nd}(hm:kL nodes h (k,es) key)(hs:∀e∈es,e∈es')(hf:∀c∈kids (k,es),∀h',Mem nodes h' c key→Mem nodes' h' c key):kL nodes' h (k,es') key:=by
 cases h with
 | zero=>obtain⟨e1,e,he,e2⟩:=hm;exact⟨e1,e,hs e he,e2⟩
 | succ h=>
  obtain⟨e1,e,he,e2⟩:=hm;simp only at e1 he;subst e1;exact⟨rfl,e,hs e he,hf _ (aV.2 ⟨e,he,rfl⟩) _ e2⟩
theorem aCX(hd:nodes b=some (2,es))(hn:eB es lo hi)(h0:es≠[])(hv:∀i,i<es.length→(es.getD i e0).2.1=ByteArray.empty)(hk:∀i,i<es.length→2≤sz nodes (kd es i)∧Ok nodes h (kd es i) (some (ky es i)) (nxt es i hi)):Ok nodes (h+1) b lo hi:=⟨es,hd,hn,h0,hv,hk⟩
theorem Wk.move(w:Wk f t H)(p:aN f t H P b (h+1) lo hi)(af:f.nodes b=some (2,es))(ha:a+1<es.length){les' res':List E3}{mid:ByteArray}
  (hl:f.nodes (kd es a)=some (k,les)) (hr:f.nodes (kd es (a+1))=some (k,res)) (cl:cu f (kd es a)=1) (cr:cu f (kd es (a+1))=1)
  (okl:OkN f.nodes h (k,les') (some (ky es a)) (some mid)) (okr:OkN f.nodes h (k,res') (some mid) (nxt es (a+1) hi)) (zl:2≤les'.length) (zr:2≤res'.length)
  (ay:∀x,(kids (k,les')).count x+(kids (k,res')).count x=(kids (k,les)).count x+(kids (k,res)).count x) (ku:∀e,e∈les'∨e∈res'→e∈les∨e∈res):
  let es':=es.set (a+1) (mid,(es.getD (a+1) e0).2)
  let f':=moveF f b (kd es a) (kd es (a+1)) k les' res' es'
  Wk f' t H∧(cD f t H→cD f' t H)∧f'.nodes b=some (2,es')∧aN f' t H P b (h+1) lo hi∧aN f' t H (b :: P) (kd es a) h (some (ky es a)) (some mid)∧aN f' t H (b :: P) (kd es (a+1)) h (some mid) (nxt es (a+1) hi)∧
   f'.nodes (kd es a)=some (k,les')∧f'.nodes (kd es (a+1))=some (k,res')∧(∀key c,c∈kids (k,les)∨c∈kids (k,res)→∀h',Mem f.nodes h' c key→Mem f'.nodes h' c key):=by
 intro es' f';have gk:=aP (show a<es.length by omega);have He:=aP ha;have Tr:kd es a≠kd es (a+1):=fun e=>by
  have:=dY (w.ic.only cl af gk).2.1 (by omega) ha e.symm;omega
 have ah:es'.length=es.length:=by simp[es']
 have bx:∀j,es'.getD j e0=if j=a+1 then(mid,(es.getD (a+1) e0).2)else es.getD j e0:=fun j=>bA _ _ _ _ _ ha;have gj:∀j,ky es' j=if j=a+1 then mid else ky es j:=fun j=>by unfold ky;rw[bx];split<;>rfl
 have iw:∀j,kd es' j=kd es j:=fun j=>by
  unfold kd;rw[bx];split
  ·rename_i e;rw[e];rfl
  ·rfl
 have AN:kids (2,es')=kids (2,es):=by
  rw[gK,gK];refine List.ext_getElem? fun j=>?_;simp only[List.getElem?_map,es',List.getElem?_set];split
  ·rename_i e;subst e
   rw[gD,gE ha];rfl
  ·rfl
 obtain⟨es0,q1,e2,e3,e4,e5⟩:=(p.ok w.ok).1;rw[af]at q1;cases q1;obtain⟨I1,I2⟩:=w.ic.move (pes':=es') (ces':=les') (ses':=res') af gk He Tr hl hr AN (fun e he=>by
  obtain⟨j,hj,rfl⟩:=cY he;rw[bx];split
  ·exact w.ic.child_pos af ha
  ·exact w.ic.child_pos af (by omega)) ay ku ⟨by intro e;rw[e]at zl;simp at zl,by intro e;rw[e]at zr;simp at zr⟩
 have RG:kd es a≠b:=fun e=>w.ic.not_self af (by rw[←e];exact gk);have fk:kd es (a+1)≠b:=fun e=>w.ic.not_self af (by rw[←e];exact He);have nb:f'.nodes b=some (2,es'):=by rw[I2,aD]
 have nr:f'.nodes (kd es (a+1))=some (k,res'):=by rw[I2,aC _ _ fk,aD]
 have nl:f'.nodes (kd es a)=some (k,les'):=by rw[I2,aC _ _ RG,aC _ _ Tr,aD]
 have nx:∀x,x≠b→x≠kd es a→x≠kd es (a+1)→f'.nodes x=f.nodes x:=fun x h1 h2 h3=>by rw[I2,aC _ _ h1,aC _ _ h3,aC _ _ h2]
 have Ge:∀x,(x=kd es a∨x=kd es (a+1))→cu f x=1∧x∈kids (2,es):=fun x q=>by
  rcases q with q | q
  ·rw[q];exact⟨cl,gk⟩
  ·rw[q];exact⟨cr,He⟩
 have Gi:∀x d,f.nodes x=some d→x≠b→¬(x=kd es a∨x=kd es (a+1))→f'.nodes x=some d:=fun x d hx ut Ad=>by
  rw[nx x ut (fun e=>Ad (.inl e)) (fun e=>Ad (.inr e))];exact hx
 obtain⟨U,lj,gd,hU⟩:=p.cl w.ic w.tl af (fun x=>x=kd es a∨x=kd es (a+1)) Ge Gi;have Ao:∀c,c∈kids (k,les)∨c∈kids (k,res)→U c:=fun c hc=>by
  obtain⟨ur,hh⟩:=w.ic.ht;have key:∀{s:Nat} {ses:List E3},s∈kids (2,es)→f.nodes s=some (k,ses)→c∈kids (k,ses)→U c:=fun {s ses} hs hd hc=>by
   obtain⟨dc,jd⟩:=w.ic.kid_live hd hc;obtain⟨o1,o2⟩:=p.kid2_off w.ic af hs hd hc;exact hU c dc jd o1 fun q=>by
    rcases q with q | q
    ·exact o2 (q▸gk)
    ·exact o2 (q▸He)
  rcases hc with hc | hc
  ·exact key gk hl hc
  ·exact key He hr hc
 have frK:∀{ds:List E3},(∀e∈ds,e∈les∨e∈res)→∀c∈kids (k,ds),∀h' lo' am,Ok f.nodes h' c lo' am→Ok f'.nodes h' c lo' am∧sz f'.nodes c=sz f.nodes c:=fun {ds} iv c hc h' lo' am hk=>by
  obtain⟨rfl,e,he,rfl⟩:=cP hc;have:U (ch e):=Ao _ ((iv e he).imp (fun q=>aV.2 ⟨e,q,rfl⟩) fun q=>aV.2 ⟨e,q,rfl⟩);exact⟨Ok.frame lj gd _ _ _ _ this hk,by unfold sz;rw[gd _ this]⟩
 have okl':Ok f'.nodes h (kd es a) (some (ky es a)) (some mid):=(dN nl).2 (okl.kids (frK fun e he=>ku e (.inl he)));have okr':Ok f'.nodes h (kd es (a+1)) (some mid) (nxt es (a+1) hi):=(dN nr).2 (okr.kids (frK fun e he=>ku e (.inr he)));have Jy:kl (ky es a) mid=true:=by
  have:=okl.node.lo 0 (by simp only;omega)
  have h2:=okl.node.hi 0 (by simp only;omega);exact kU this h2
 have F0:hiR (nxt es (a+1) hi) mid:=by
  have h1:=okr.node.lo 0 (by simp only;omega);have h2:=okr.node.hi 0 (by simp only;omega);cases hx:nxt es (a+1) hi with
  | none=>trivial
  | some u=>rw[hx]at h2;exact kU h1 h2
 have Tu:∀j,a+1<j→j<es.length→kl mid (ky es j)=true:=fun j hj xx=>by
  have:kl mid (ky es (a+1+1))=true:=by rw[cL _ (by omega)]at F0;exact F0
  by_cases e:j=a+1+1
  ·rw[e];exact this
  ·exact kH this (e2.srt _ _ (by omega) xx)
 have i5:∀j,j≠a→nxt es' j hi=nxt es j hi:=fun j hj=>by
  unfold nxt;rw[ah,gj,if_neg (show ¬j+1=a+1 by omega)]
 have M2:nxt es' a hi=some mid:=by rw[cL _ (by rw[ah];exact ha),gj,if_pos rfl]
 have av:∀y∈P,y≠b:=fun y hy e=>by
  obtain⟨ur,hh⟩:=w.ic.ht;have:=p.high hh y hy;rw[e]at this;omega
 have CJ:∀y∈P,f'.nodes y=f.nodes y:=fun y hy=>nx y (av y hy) (fun e=>p.kid_off w.ic af gk (e▸List.mem_cons_of_mem _ hy)) (fun e=>p.kid_off w.ic af He (e▸List.mem_cons_of_mem _ hy));have p':aN f' t H P b (h+1) lo hi:=p.mono rfl (fun _ _=>rfl) CJ;have kg:Ok f'.nodes (h+1) b lo hi:=by
  refine aCX nb ⟨fun i j im hj=>?_,fun j hj=>?_,fun j hj=>?_,by rw[ah];exact e2.le5⟩ (fun e=>e3 (List.length_eq_zero_iff.1 (by rw[←ah,e];rfl))) (fun j hj=>?_) fun j hj=>?_
  ·rw[ah]at hj
   rw[gj,gj];by_cases i1:i=a+1
   ·rw[if_pos i1,if_neg (by omega)];exact Tu j (by omega) hj
   ·rw[if_neg i1]
    by_cases j1:j=a+1
    ·rw[if_pos j1]
     by_cases e:i=a
     ·rw[e];exact Jy
     ·exact kH (e2.srt i a (by omega) (by omega)) Jy
    ·rw[if_neg j1];exact e2.srt i j im hj
  ·rw[ah]at hj
   rw[gj];split
   ·exact aHD Jy (e2.lo a (by omega))
   ·exact e2.lo j hj
  ·rw[ah]at hj
   rw[gj];split
   ·by_cases e:a+1+1<es.length
    ·exact rV (Tu _ (by omega) e) (e2.hi _ e)
    ·rw[eN _ e]at F0;exact F0
   ·exact e2.hi j hj
  ·rw[ah]at hj
   rw[bx];split
   ·exact e4 _ ha
   ·exact e4 j hj
  ·rw[ah]at hj
   rw[iw,gj];by_cases j1:j=a+1
   ·rw[if_pos j1,j1,i5 _ (by omega)]
    exact⟨by unfold sz;rw[nr];exact zr,okr'⟩
   ·rw[if_neg j1]
    by_cases j2:j=a
    ·rw[j2,M2];exact⟨by unfold sz;rw[nl];exact zl,okl'⟩
    ·rw[i5 j j2]
     obtain⟨dj,JT⟩:=w.ic.kid_live af (aP hj);have:U (kd es j):=hU _ dj JT (p.kid_off w.ic af (aP hj)) fun q=>by
      rcases q with q | q
      ·exact j2 (dY (w.ic.only cl af gk).2.1 (by omega) hj q)
      ·exact j1 (dY (w.ic.only cr af He).2.1 ha hj q)
     exact⟨by unfold sz;rw[gd _ this];exact(e5 j hj).1,Ok.frame lj gd _ _ _ _ this (e5 j hj).2⟩
 have bd:sz f'.nodes b=sz f.nodes b:=by unfold sz;rw[nb,af];exact ah
 refine⟨w.step p I1 rfl af _ Ge Gi kg (fun hP=>by rw[bd];exact(p.ok w.ok).2 hP),fun er=>p.rt rfl CJ (fun h0 hP=>?_) er,nb,p',?_,?_,nl,nr,fun key c hc h' hm=>Mem.frame lj gd _ _ (Ao c hc) hm⟩
 ·rw[bd]
  rcases er with q | q
  ·omega
  ·rcases p.top with⟨_,q',_⟩ | ⟨q',_⟩
   ·rw[q'];exact q
   ·rw[hP]at q';cases q'
 ·have:=aN.down p' nb (i:=a) (by rw[ah];omega) (by rw[iw];exact cl)
  rw[iw,gj,if_neg (by omega),M2]at this;exact this
 ·have:=aN.down p' nb (i:=a+1) (by rw[ah];omega) (by rw[iw];exact cr)
  rw[iw,gj,if_pos rfl,i5 _ (by omega)]at this;exact this
theorem Wk.merge(w:Wk f t H)(p:aN f t H P b (h+1) lo hi)(af:f.nodes b=some (2,es))(ha:a+1<es.length){ses:List E3}{s:Nat}
  (g8:(c=kd es a∧s=kd es (a+1)∧ces=les∧ses=res)∨(c=kd es (a+1)∧s=kd es a∧ces=res∧ses=les)) (hc:f.nodes c=some (k,ces)) (hs:f.nodes s=some (k,ses)) (cc:cu f c=1)
  (h5:les.length+res.length≤5) (ah:es'.length+1=es.length) (gj:∀j,ky es' j=if j≤a then ky es j else ky es (j+1)) (iw:∀j,kd es' j=if j<a then kd es j else if j=a then c else kd es (j+1))
  (hv:∀j,j<es'.length→(es'.getD j e0).2.1=ByteArray.empty) (QX:∀x,(kids (2,es')).count x+one s x=(kids (2,es)).count x) (bz:∀e∈es',0≤e.2.2) (h3:P≠[]→3≤es.length):
  let f':=mergeF f b c s k (les++res) es'
  Wk f' t H∧(3≤es.length→cD f t H→cD f' t H)∧f'.nodes b=some (2,es')∧aN f' t H P b (h+1) lo hi∧aN f' t H (b :: P) c h (some (ky es a)) (nxt es (a+1) hi)∧f'.nodes c=some (k,les++res)∧
   (∀key x,x∈kids (k,ces)→∀h',Mem f.nodes h' x key→Mem f'.nodes h' x key):=by
 intro f';have gk:=aP (show a<es.length by omega);have He:=aP ha;have fh:c∈kids (2,es):=by rcases g8 with⟨q,_⟩ | ⟨q,_⟩<;>(rw[q];assumption)
 have tr:s∈kids (2,es):=by rcases g8 with⟨_,q,_⟩ | ⟨_,q,_⟩<;>(rw[q];assumption)
 have Fs:c≠s:=fun e=>by
  rcases g8 with⟨q1,q2,_⟩ | ⟨q1,q2,_⟩
  ·have e':kd es (a+1)=kd es a:=by rw[←q1,←q2,e]
   have:=dY (by rw[←q1];exact(w.ic.only cc af fh).2.1) (show a<es.length by omega) ha e';omega
  ·have e':kd es a=kd es (a+1):=by rw[←q1,←q2,e]
   have:=dY (by rw[←q1];exact(w.ic.only cc af fh).2.1) ha (show a<es.length by omega) e';omega
 have MW:es'≠[]:=fun e=>by rw[e]at ah;simp at ah;omega
 obtain⟨es0,q1,e2,e3,e4,e5⟩:=(p.ok w.ok).1;rw[af]at q1;cases q1;have okl:OkN f.nodes h (k,les) (some (ky es a)) (some (ky es (a+1)))∧2≤les.length:=by
  have h1:=e5 a (by omega);rw[cL _ ha]at h1;rcases g8 with⟨q1,q2,q3,q4⟩ | ⟨q1,q2,q3,q4⟩
  ·rw[←q1]at h1;rw[←q3];exact⟨(dN hc).1 h1.2,by have:=h1.1;unfold sz at this;rw[hc]at this;exact this⟩
  ·rw[←q2]at h1;rw[←q4];exact⟨(dN hs).1 h1.2,by have:=h1.1;unfold sz at this;rw[hs]at this;exact this⟩
 have okr:OkN f.nodes h (k,res) (some (ky es (a+1))) (nxt es (a+1) hi)∧2≤res.length:=by
  have h1:=e5 (a+1) ha;rcases g8 with⟨q1,q2,q3,q4⟩ | ⟨q1,q2,q3,q4⟩
  ·rw[←q2]at h1;rw[←q4];exact⟨(dN hs).1 h1.2,by have:=h1.1;unfold sz at this;rw[hs]at this;exact this⟩
  ·rw[←q1]at h1;rw[←q3];exact⟨(dN hc).1 h1.2,by have:=h1.1;unfold sz at this;rw[hc]at this;exact this⟩
 have pf:les≠[]:=fun e=>by rw[e]at okl;have:=okl.2;simp at this
 have KE:res≠[]:=fun e=>by rw[e]at okr;have:=okr.2;simp at this
 have okj:OkN f.nodes h (k,les++res) (some (ky es a)) (nxt es (a+1) hi):=okl.1.join okr.1 (eD _) pf KE h5;have jy:∀e,e∈les++res→e∈ces∨e∈ses:=fun e he=>by
  rcases g8 with⟨_,_,q3,q4⟩ | ⟨_,_,q3,q4⟩
  ·rw[q3,q4];exact List.mem_append.1 he
  ·rw[q3,q4];exact(List.mem_append.1 he).symm
 obtain⟨I1,I2⟩:=w.ic.merge (pes':=es') (ces':=les++res) af fh tr Fs hc hs QX bz MW (fun x=>by
  rw[nO,List.count_append];rcases g8 with⟨_,_,q3,q4⟩ | ⟨_,_,q3,q4⟩
  ·rw[q3,q4]
  ·rw[q3,q4];omega) jy (by simp[pf])
 have pp:c≠b:=fun e=>w.ic.not_self af (by rw[←e];exact fh);have T7:s≠b:=fun e=>w.ic.not_self af (by rw[←e];exact tr);have nb:f'.nodes b=some (2,es'):=by
  rw[I2];split
  ·rw[aC _ _ (Ne.symm T7),aD]
  ·rw[aD]
 have nc:f'.nodes c=some (k,les++res):=by
  rw[I2];split
  ·rw[aC _ _ Fs,aC _ _ pp,aD]
  ·rw[aC _ _ pp,aD]
 have nx:∀x,x≠b→x≠c→¬(x=s∧cu f s=1)→f'.nodes x=f.nodes x:=fun x h1 h2 h3=>by
  rw[I2];split
  ·rename_i q;rw[aC _ _ (fun e=>h3 ⟨e,q⟩),aC _ _ h1,aC _ _ h2]
  ·rw[aC _ _ h1,aC _ _ h2]
 have Ge:∀x,(x=c∨(x=s∧cu f s=1))→cu f x=1∧x∈kids (2,es):=fun x q=>by
  rcases q with q | ⟨q,q'⟩
  ·rw[q];exact⟨cc,fh⟩
  ·rw[q];exact⟨q',tr⟩
 have Gi:∀x d,f.nodes x=some d→x≠b→¬(x=c∨(x=s∧cu f s=1))→f'.nodes x=some d:=fun x d hx ut Ad=>by
  rw[nx x ut (fun e=>Ad (.inl e)) (fun e=>Ad (.inr e))];exact hx
 obtain⟨U,lj,gd,hU⟩:=p.cl w.ic w.tl af (fun x=>x=c∨(x=s∧cu f s=1)) Ge Gi;have Ao:∀x,x∈kids (k,ces)∨x∈kids (k,ses)→U x:=fun x hx=>by
  have key:∀{s':Nat} {ds:List E3},s'∈kids (2,es)→f.nodes s'=some (k,ds)→x∈kids (k,ds)→U x:=fun {s' ds} K8 hd hx=>by
   obtain⟨dc,jd⟩:=w.ic.kid_live hd hx;obtain⟨o1,o2⟩:=p.kid2_off w.ic af K8 hd hx;exact hU x dc jd o1 fun q=>by
    rcases q with q | ⟨q,_⟩
    ·exact o2 (q▸fh)
    ·exact o2 (q▸tr)
  rcases hx with hx | hx
  ·exact key fh hc hx
  ·exact key tr hs hx
 have okc':Ok f'.nodes h c (some (ky es a)) (nxt es (a+1) hi):=(dN nc).2 (okj.kids fun x hx h' lo' am hk=>by
  obtain⟨rfl,e,he,rfl⟩:=cP hx;have:U (ch e):=Ao _ ((jy e he).imp (fun q=>aV.2 ⟨e,q,rfl⟩) fun q=>aV.2 ⟨e,q,rfl⟩);exact⟨Ok.frame lj gd _ _ _ _ this hk,by unfold sz;rw[gd _ this]⟩)
 have i5:∀j,nxt es' j hi=if j<a then nxt es j hi else nxt es (j+1) hi:=fun j=>by
  by_cases j1:j<a
  ·rw[if_pos j1,cL _ (by omega),cL _ (by omega),gj,if_pos (by omega)]
  ·rw[if_neg j1]
   unfold nxt;by_cases j2:j+1<es'.length
   ·rw[if_pos j2,if_pos (by omega),gj,if_neg (by omega)]
   ·rw[if_neg j2,if_neg (by omega)]
 have av:∀y∈P,y≠b:=fun y hy e=>by
  obtain⟨ur,hh⟩:=w.ic.ht;have:=p.high hh y hy;rw[e]at this;omega
 have CJ:∀y∈P,f'.nodes y=f.nodes y:=fun y hy=>nx y (av y hy) (fun e=>p.kid_off w.ic af fh (e▸List.mem_cons_of_mem _ hy)) (fun e=>p.kid_off w.ic af tr (e.1▸List.mem_cons_of_mem _ hy));have rq:(setN (setN f c (k,les++res)) b (2,es')).nodes s=some (k,ses):=by
  show upd (upd f.nodes c _) b _ s=_
  rw[aC _ _ T7,aC _ _ (Ne.symm Fs)];exact hs
 have nk:∀y,y≠s→y∉kids (k,ses)→cu f' y=cu f y:=fun y h1 h2=>nA (f:=setN (setN f c (k,les++res)) b (2,es')) (w.ic.lt hs) rq (fun x hx=>w.ic.kid_lt hs hx) h1 h2;have VZ:∀y∈b :: P,cu f' y=cu f y:=fun y hy=>nk y (fun e=>p.kid_off w.ic af tr (e▸hy)) (fun hk=>(p.kid2_off w.ic af tr hs hk).1 hy);have jr:f'.roots=f.roots:=dV _ _;have p':aN f' t H P b (h+1) lo hi:=p.mono (by unfold aB;rw[jr]) VZ CJ;have kg:Ok f'.nodes (h+1) b lo hi:=by
  refine aCX nb ⟨fun i j im hj=>?_,fun j hj=>?_,fun j hj=>?_,by have:=e2.le5;omega⟩ MW hv fun j hj=>?_
  ·rw[gj,gj]
   by_cases i1:i≤a
   ·rw[if_pos i1]
    by_cases j1:j≤a
    ·rw[if_pos j1];exact e2.srt i j im (by omega)
    ·rw[if_neg j1];exact e2.srt i _ (by omega) (by omega)
   ·rw[if_neg i1,if_neg (by omega)];exact e2.srt _ _ (by omega) (by omega)
  ·rw[gj];split
   ·exact e2.lo j (by omega)
   ·exact e2.lo _ (by omega)
  ·rw[gj];split
   ·exact e2.hi j (by omega)
   ·exact e2.hi _ (by omega)
  ·have other:∀j',j'<es.length→j'≠a→j'≠a+1→2≤sz f'.nodes (kd es j')∧Ok f'.nodes h (kd es j') (some (ky es j')) (nxt es j' hi):=fun j' xw n1 n2=>by
    obtain⟨dj,JT⟩:=w.ic.kid_live af (aP xw);have:U (kd es j'):=hU _ dj JT (p.kid_off w.ic af (aP xw)) fun q=>by
     rcases q with q | ⟨q,q'⟩
     ·rcases g8 with⟨r1,_⟩ | ⟨r1,_⟩
      ·rw[r1]at q;exact n1 (dY (by rw[←r1];exact(w.ic.only cc af fh).2.1) (by omega) xw q)
      ·rw[r1]at q;exact n2 (dY (by rw[←r1];exact(w.ic.only cc af fh).2.1) ha xw q)
     ·rcases g8 with⟨_,r1,_⟩ | ⟨_,r1,_⟩
      ·rw[r1]at q;exact n2 (dY (by rw[←r1];exact(w.ic.only q' af tr).2.1) ha xw q)
      ·rw[r1]at q;exact n1 (dY (by rw[←r1];exact(w.ic.only q' af tr).2.1) (by omega) xw q)
    exact⟨by unfold sz;rw[gd _ this];exact(e5 j' xw).1,Ok.frame lj gd _ _ _ _ this (e5 j' xw).2⟩
   rw[iw,gj,i5];by_cases j1:j<a
   ·rw[if_pos j1,if_pos (by omega),if_pos j1];exact other j (by omega) (by omega) (by omega)
   ·rw[if_neg j1,if_neg j1]
    by_cases j2:j=a
    ·rw[if_pos j2,if_pos (by omega),j2]
     exact⟨by unfold sz;rw[nc];simp only[lP];have:=okl.2;omega,okc'⟩
    ·rw[if_neg j2,if_neg (by omega)];exact other _ (by omega) (by omega) (by omega)
 have bd:sz f'.nodes b=es'.length:=by unfold sz;rw[nb]
 refine⟨w.step p I1 jr af _ Ge Gi kg (fun hP=>by rw[bd];have:=h3 hP;omega),fun PL er=>p.rt (by unfold aB;rw[jr]) CJ (fun h0 hP=>by rw[bd];omega) er,nb,p',?_,nc,fun key x hx h' hm=>Mem.frame lj gd _ _ (Ao x (.inl hx)) hm⟩;have mw:kd es' a=c:=by rw[iw,if_neg (by omega),if_pos rfl]
 have:=aN.down p' nb (i:=a) (by omega) (by rw[mw,nk c Fs (fun hk=>(p.kid2_off w.ic af tr hs hk).2 fh)];exact cc)
 rw[mw,gj,if_pos (nR a),i5,if_neg (by omega)]at this;exact this
theorem Wk.fall(w:Wk f t (h+1)){e:E3}(af:f.nodes (aB f t)=some (2,[e]))(h1:cu f (aB f t)=1)(hc:cu f (ch e)=1):
  let f':=fallF f t (aB f t) (ch e)
  Wk f' t h∧aN f' t h [] (ch e) h none none∧aB f' t=ch e∧cD f' t h∧(∀x,x≠aB f t→f'.nodes x=f.nodes x)∧(∀key,Mem f.nodes h (ch e) key→Mem f'.nodes h (ch e) key):=by
 intro f';obtain⟨I1,I2⟩:=w.ic.fall (t:=t) (r:=aB f t) w.tl rfl af h1;have ho:=w.ic.onlyRoot (aO w.tl) h1;have hk:ch e∈kids (2,[e]):=by simp[gK]
 have hr:aB f' t=ch e:=by
  show((f.roots.set t _).getD t (0,0)).2.toNat=_
  simp[gD,w.tl]
 have FD:∀u,u≠t→aB f' u=aB f u:=fun u hu=>by
  show((f.roots.set t _).getD u (0,0)).2.toNat=_
  unfold aB;simp only[gD,List.getElem?_set,if_neg (Ne.symm hu)]
 have nx:∀x,x≠aB f t→f'.nodes x=f.nodes x:=fun x hx=>by rw[I2,aC _ _ hx]
 let U:Nat→Prop:=fun x=>(∃d,f.nodes x=some d)∧x≠aB f t
 have lj:∀x d,U x→f.nodes x=some d→∀c∈kids d,U c:=fun x d' _ hx c bj=>
  ⟨w.ic.kid_live hx bj,fun e=>ho.2 x d' hx (by have:c=(f.roots.getD t (0,0)).2.toNat:=e;rw[←this];exact bj)⟩
 have gd:∀x,U x→f'.nodes x=f.nodes x:=fun x ⟨_,h1⟩=>nx x h1;have Ao:U (ch e):=⟨w.ic.kid_live af hk,fun q=>w.ic.not_self af (q▸hk)⟩;obtain⟨es0,q1,_,_,_,e5⟩:=w.ok;rw[af]at q1;cases q1;have h5:=e5 0 (by simp);have iw:kd [e] 0=ch e:=rfl;rw[iw]at h5;have okc:Ok f'.nodes h (ch e) none none:=(Ok.frame lj gd _ _ _ _ Ao h5.2).wide (fun _ _=>trivial) (fun _ _=>trivial);refine⟨⟨I1,by show t <(f.roots.set t _).length;simpa using w.tl,by rw[hr];exact okc,fun u hu yj=>?_⟩,?_,hr,.inr (by rw[hr];unfold sz;rw[gd _ Ao];exact h5.1),nx,fun key hm=>Mem.frame lj gd _ _ Ao hm⟩
 ·have hu:u<f.roots.length:=by have:u <(f.roots.set t _).length:=hu;simpa using this
  obtain⟨h',g1,g2⟩:=w.oth u hu yj;have Dx:U (aB f u):=⟨w.ic.root_live (aO hu),mP w.ic w.tl hu yj h1⟩;refine⟨h',by rw[FD u yj];exact Ok.frame lj gd _ _ _ _ Dx g1,?_⟩;rcases g2 with g2 | g2
  ·exact .inl g2
  ·refine .inr ?_
   unfold sz at g2 ⊢;rw[FD u yj,gd _ Dx];exact g2
 ·have EN:ch e≠aB f t:=Ao.2
  have:=aN.here (f:=f') (t:=t) (H:=h) (by
   rw[hr];exact(fC f (aB f t) (ch e) 0 (w.ic.lt af)).trans ((if_neg (Ne.symm EN)).trans hc))
  rw[hr]at this;exact this
theorem Wk.shadow_sib(w:Wk f t H)(p:aN f t H P b (h+1) lo hi)(af:f.nodes b=some (2,es))(am:i<es.length)(hs:shadow f (.ent b i)=some (g,c)):
  (∀key h',Mem f.nodes h' (kd es i) key→Mem g.nodes h' c key)∧(∀x∈kids (2,es),x≠kd es i→g.nodes x=f.nodes x∧cu g x=cu f x∧∀key h',Mem f.nodes h' x key→Mem g.nodes h' x key)∧
   (∀es',g.nodes b=some (2,es')→∀j,(es'.getD j e0).2.1=(es.getD j e0).2.1∧(j≠i→es'.getD j e0=es.getD j e0)):=by
 have gk:look f b=(2,es):=aE af;have hg:bI f (.ent b i)=kd es i:=by simp only[bI,gk];rfl
 unfold shadow at hs;rw[hg]at hs;by_cases ho:own f (kd es i)
 ·rw[if_pos ho]at hs;cases hs
  exact⟨fun _ _ q=>q,fun _ _ _=>⟨rfl,rfl,fun _ _ q=>q⟩,fun es' h' j=>by rw[af]at h';cases h';exact⟨rfl,fun _=>rfl⟩⟩
 ·rw[if_neg ho]at hs
  by_cases hl:aF f=0
  ·rw[if_pos hl]at hs;cases hs
  ·rw[if_neg hl]at hs;cases hs
   obtain⟨gp,ml,hc,_⟩:=aR hl;generalize aF f=q at *;obtain⟨d,hd⟩:=w.ic.kid_live af (aP am);have hL:dR f (.ent b i):=⟨w.ic.lt af,es,af,am⟩;obtain⟨I1,I2,I3,I4,I5⟩:=w.ic.shadow hL hg hd gp ml hc;have de:f.nodes q=none:=(w.ic.dom.dead q).2 hc;have fh:=aP am;have pp:kd es i≠b:=fun e=>w.ic.not_self af (by rw[←e];exact fh);have AF:kd es i≠q:=fun e=>by rw[e,de]at hd;cases hd
   have mi:b≠q:=fun e=>by rw[e,de]at af;cases af
   have AV:=w.ic.not_self hd;have nb:(shadowAt f (.ent b i) q).nodes b=some (setE (2,es) i q):=by
    rw[I2];unfold shN cpN;simp only[gk];split
    ·rw[aC _ _ (Ne.symm pp),aD]
    ·rw[aD]
   have nq:(shadowAt f (.ent b i) q).nodes q=some d:=by
    rw[I2];unfold shN cpN;simp only;split
    ·rw[aC _ _ (Ne.symm AF),aC _ _ (Ne.symm mi),aD]
    ·rw[aC _ _ (Ne.symm mi),aD]
   have nx:∀x,x≠b→x≠q→¬(x=kd es i∧cu f (kd es i)=1)→(shadowAt f (.ent b i) q).nodes x=f.nodes x:=fun x h1 h2 h3=>by
    rw[I2];unfold shN cpN;simp only;split
    ·rename_i nk
     rw[aC _ _ (fun e=>h3 ⟨e,nk⟩),aC _ _ h1,aC _ _ h2]
    ·rw[aC _ _ h1,aC _ _ h2]
   have ed:∀{x:Nat} {d':Nd},f.nodes x=some d'→x≠q:=fun hx e=>by rw[e,de]at hx;cases hx
   obtain⟨U,lj,gd,hU⟩:=p.cl w.ic w.tl af (nodes':=(shadowAt f (.ent b i) q).nodes) (fun x=>x=kd es i∧cu f (kd es i)=1) (fun x ⟨q1,q2⟩=>⟨by rw[q1];exact q2,by rw[q1];exact fh⟩) (fun x d hx ut Ad=>by rw[nx x ut (ed hx) Ad];exact hx);refine⟨fun key h' hm=>?_,fun x hx OX=>?_,fun es' h' j=>?_⟩
   ·rw[bO nq]
    rw[bO hd]at hm;obtain⟨k,des⟩:=d;refine hm.more (fun e he=>he) fun c bj U4 gy=>?_;obtain⟨dc,jd⟩:=w.ic.kid_live hd bj;exact Mem.frame lj gd _ _ (hU c dc jd (p.kid2_off w.ic af fh hd bj).1 fun q'=>AV (q'.1▸bj)) gy
   ·obtain⟨dx,Tg⟩:=w.ic.kid_live af hx
    have TR:=hU x dx Tg (p.kid_off w.ic af hx) fun q'=>OX q'.1;refine⟨gd x TR,uS w.ic hL hg hd ml hc OX (fun hk=>?_) (ed Tg),fun key h' hm=>Mem.frame lj gd _ _ TR hm⟩;exact(p.kid2_off w.ic af fh hd hk).2 hx
   ·rw[nb]at h'
    have:es'=es.set i ((es.getD i e0).1,(es.getD i e0).2.1,(q:Int)):=by
     simp only[setE,sJ,Prod.mk.injEq,true_and]at h';exact h'.symm
    rw[this,bA _ _ _ _ _ am];by_cases e:j=i
    ·rw[if_pos e,e];exact⟨rfl,fun q=>absurd rfl q⟩
    ·rw[if_neg e];exact⟨rfl,fun _=>rfl⟩
def fillNext(g:fZ)(b i c:Nat):Option fZ:=
 if 2 <(look g (kd (look g b).2 (i+1))).2.length then
  match shadow g (.ent b (i+1))with
  | none=>none
  | some (k,s)=>some (moveF k b c s (look k c).1 ((look k c).2++(look k s).2.take 1) ((look k s).2.drop 1) ((look k b).2.set (i+1) (ky (look k s).2 1,((look k b).2.getD (i+1) e0).2)))
 else some (mergeF g b c (kd (look g b).2 (i+1)) (look g c).1 ((look g c).2++(look g (kd (look g b).2 (i+1))).2) (delE (look g b).2 (i+1)))
def fillLast(g:fZ)(b i c:Nat):Option fZ:=
 if 2 <(look g (kd (look g b).2 (i-1))).2.length then
  match shadow g (.ent b (i-1))with
  | none=>none
  | some (k,s)=>some (moveF k b s c (look k c).1 ((look k s).2.take ((look k s).2.length-1)) ((look k s).2.drop ((look k s).2.length-1)++(look k c).2) ((look k b).2.set i (ky (look k s).2 ((look k s).2.length-1),((look k b).2.getD i e0).2)))
 else some (mergeF g b c (kd (look g b).2 (i-1)) (look g c).1 ((look g (kd (look g b).2 (i-1))).2++(look g c).2) (delE ((look g b).2.set i (ky (look g b).2 (i-1),((look g b).2.getD i e0).2)) (i-1)))
def stepDel(f:fZ)(b:Nat)(key:ByteArray):Option (fZ×Nat):=
 match shadow f (.ent b (bK (look f b).2 key))with
 | none=>none
 | some (g,c)=>
  if 2 <(look g c).2.length then some (g,c)else
  if bK (look f b).2 key+1 <(look g b).2.length then(fillNext g b (bK (look f b).2 key) c).map fun k=>(k,c)
  else(fillLast g b (bK (look f b).2 key) c).map fun k=>(k,c)
def delAt:Nat→fZ→Nat→Nat→ByteArray→Option fZ
 | 0,f,t,b,key=>some (setN f b (1,delE (look f b).2 (cLt (look f b).2 key)))
 | h+1,f,t,b,key=>match stepDel f b key with
  | none=>none
  | some (g,c)=>if(look g b).2.length=1 then delAt h (fallF g t (aB g t) (kd (look g b).2 0)) t c key else delAt h g t c key
def bV(f:fZ)(t H:Nat)(key:ByteArray):Option fZ:=
 match shadow f (.root t)with
 | none=>none
 | some (g,r)=>delAt H g t r key
theorem kT(k:Int)(es:List E3)(n x:Nat):(kids (k,es.take n)).count x+(kids (k,es.drop n)).count x=(kids (k,es)).count x:=(sA k es n x).symm
structure Stp(f g:fZ)(t H:Nat)(P:List Nat)(b h:Nat)(lo hi:OB)(c:Nat)(key:ByteArray):Prop where
 wk:Wk g t H
 same:aW f g
 path:∃lo' am,aN g t H (b :: P) c h lo' am
 up:aN g t H P b (h+1) lo hi
 spare:3≤sz g.nodes c
 mem:Mem g.nodes h c key
 rt:cD f t H→cD g t H∨(P=[]∧∃e,g.nodes b=some (2,[e])∧ch e=c)
 many:(∃es,g.nodes b=some (2,es)∧2≤es.length)∨(P=[]∧∃e,g.nodes b=some (2,[e])∧ch e=c)
theorem Wk.fillNext(w:Wk g t H)(p:aN g t H P b (h+1) lo hi)(af:g.nodes b=some (2,es))(am:i+1<es.length)(hc:g.nodes (kd es i)=some (k,ces))(cc:cu g (kd es i)=1)(au:ces.length=2)(hm:Mem g.nodes h (kd es i) key)(h3:P≠[]→3≤es.length)
  {f':fZ} (hs:fillNext g b i (kd es i)=some f'):Stp g f' t H P b h lo hi (kd es i) key:=by
 have fh:=aP (show i<es.length by omega);have tr:=aP am;obtain⟨es0,q1,e2,e3,e4,e5⟩:=(p.ok w.ok).1;rw[af]at q1;cases q1;have BN:=(dN hc).1 (e5 i (by omega)).2;rw[cL _ am]at BN;obtain⟨⟨k',ses⟩,hd⟩:=w.ic.kid_live af tr;have Am:=(dN hd).1 (e5 (i+1) am).2;have pd:k'=k:=by
  cases h with
  | zero=>have a1:=BN.1;have a2:=Am.1;simp only at a1 a2;omega
  | succ h=>have a1:=BN.1;have a2:=Am.1;simp only at a1 a2;omega
 subst pd;have dw:2≤ses.length:=by have:=(e5 (i+1) am).1;unfold sz at this;rw[hd]at this;exact this
 have K9:ses.length≤5:=Am.node.le5;have g8:kd es i≠kd es (i+1):=fun e=>by
  have:=dY (w.ic.only cc af fh).2.1 (by omega) am e.symm;omega
 have yz:ces≠[]:=fun e=>by rw[e]at au;simp at au
 unfold Fo.fillNext at hs;rw[aE af]at hs;simp only at hs;rw[aE hd]at hs;simp only at hs;by_cases kw:2<ses.length
 ·rw[if_pos kw]at hs
  cases al:shadow g (.ent b (i+1))with
  | none=>rw[al]at hs;cases hs
  | some ks=>
   obtain⟨g2,s⟩:=ks;rw[al]at hs;simp only[sJ]at hs;obtain⟨w2,p2,p3,⟨es2,m1,m2,m3,m4⟩,m5,m6,m7,m8,m9⟩:=w.shadow_ent p af am al;obtain⟨s1,s2,s3⟩:=w.shadow_sib p af am al;obtain⟨x1,x2,x3⟩:=s2 _ fh g8;have mw:kd es2 i=kd es i:=by unfold kd;rw[(s3 es2 m1 i).2 (by omega)]
   have jg:g2.nodes (kd es2 i)=some (k',ces):=by rw[mw,x1];exact hc
   have tg:g2.nodes (kd es2 (i+1))=some (k',ses):=by rw[m4,m5];exact hd
   obtain⟨es3,q1,_,_,_,e5'⟩:=(p2.ok w2.ok).1;rw[m1]at q1;cases q1;have Fd:=(dN jg).1 (e5' i (by omega)).2;rw[cL _ (by omega)]at Fd;have Cm:=(dN tg).1 (e5' (i+1) (by omega)).2;have JR:g2.nodes s=some (k',ses):=by rw[←m4];exact tg
   have AE:g2.nodes (kd es i)=some (k',ces):=by rw[←mw];exact jg
   rw[aE AE,aE JR,aE m1]at hs;simp only at hs;have mv:=w2.move p2 m1 (a:=i) (by omega) jg tg (by rw[mw,x2];exact cc) (by rw[m4];exact m6) (les':=ces++ses.take 1) (res':=ses.drop 1) (mid:=ky ses 1)
    (Fd.join (Cm.take (by omega) (by omega)) (eD _) yz (oK (by omega) (by omega)) (by rw[len_take' (by omega)];omega))
    (Cm.drop (by omega)) (by rw[lP,len_take' (by omega)];omega) (by rw[List.length_drop];omega)
    (fun x=>by rw[nO,List.count_append];have:=kT k' ses 1 x;omega)
    (fun e he=>by
     rcases he with he | he
     ·rcases List.mem_append.1 he with he | he
      ·exact .inl he
      ·exact .inr (List.mem_of_mem_take he)
     ·exact .inr (List.mem_of_mem_drop he))
   rw[m4,mw]at mv;simp only at mv;rw[hs]at mv;obtain⟨v1,v2,v3,v4,v5,v6,v7,v8,v9⟩:=mv;have qf:(es2.set (i+1) (ky ses 1,(es2.getD (i+1) e0).2)).length=es.length:=by simp[m2]
   refine⟨v1,m9.trans (hs▸aW.moveF ..),⟨_,_,v5⟩,v4,?_,?_,fun hr=>.inl (v2 (m8 hr)),.inl ⟨_,v3,by rw[qf];omega⟩⟩
   ·unfold sz;rw[v7];simp only[lP,List.length_take];omega
   ·rw[bO v7]
    have oa:=x3 key h hm;rw[bO AE]at oa;exact oa.more (fun e he=>List.mem_append_left _ he) fun c bj h' gy=>v9 key c (.inl bj) h' gy
 ·rw[if_neg kw,aE hc]at hs
  simp only[sJ]at hs;have bz:∀e∈delE es (i+1),0≤e.2.2:=fun e he=>by
   obtain⟨j,hj,rfl⟩:=cY (nY he);exact w.ic.child_pos af hj
  have ie:=fun j=>iG es (i+1) e0 (by omega) j;have mg:=w.merge p af (a:=i) am (es':=delE es (i+1)) (.inl ⟨rfl,rfl,rfl,rfl⟩) hc hd cc (by omega) (by rw[bH _ _ am];omega)
   (fun j=>by
    unfold ky;rw[ie];by_cases q:j≤i
    ·rw[if_pos (by omega),if_pos q]
    ·rw[if_neg (by omega),if_neg q])
   (fun j=>by
    unfold kd;rw[ie];by_cases q:j<i
    ·rw[if_pos (by omega),if_pos q]
    ·rw[if_neg q]
     by_cases q':j=i
     ·rw[if_pos (by omega),if_pos q',q']
     ·rw[if_neg (by omega),if_neg q'])
   (fun j hj=>by
    rw[bH _ _ am]at hj;rw[ie];split
    ·exact e4 j (by omega)
    ·exact e4 _ (by omega))
   (fun x=>vD es (i+1) x am) bz h3
  simp only at mg
  rw[hs]at mg;obtain⟨v1,v2,v3,v4,v5,v6,v7⟩:=mg;have fg:(∃es',f'.nodes b=some (2,es')∧2≤es'.length)∨(P=[]∧∃e,f'.nodes b=some (2,[e])∧ch e=kd es i):=by
   by_cases q:3≤es.length
   ·exact .inl ⟨_,v3,by rw[bH _ _ am];omega⟩
   ·refine .inr ⟨by by_cases hP:P=[];exact hP;exact absurd (h3 hP) q,es.getD 0 e0,?_,?_⟩
    ·rw[v3]
     have hl:es.length=2:=by omega
     obtain rfl:i=0:=by omega
     match es,hl with
     | [x,y],_=>rfl
    ·obtain rfl:i=0:=by omega
     rfl
  refine⟨v1,hs▸aW.mergeF ..,⟨_,_,v5⟩,v4,?_,?_,fun hr=>?_,fg⟩
  ·unfold sz;rw[v6];simp only[lP];omega
  ·rw[bO v6]
   rw[bO hc]at hm;exact hm.more (fun e he=>List.mem_append_left _ he) fun c bj h' gy=>v7 key c bj h' gy
  ·by_cases q:3≤es.length
   ·exact .inl (v2 q hr)
   ·rcases fg with⟨es',n1,n2⟩ | q'
    ·rw[v3]at n1;cases n1;rw[bH _ _ am]at n2;omega
    ·exact .inr q'
theorem Wk.fillLast(w:Wk g t H)(p:aN g t H P b (h+1) lo hi)(af:g.nodes b=some (2,es))(am:a+1<es.length)(OT:¬a+1+1<es.length)(hc:g.nodes (kd es (a+1))=some (k,ces))(cc:cu g (kd es (a+1))=1)(au:ces.length=2)(hm:Mem g.nodes h (kd es (a+1)) key)(h3:P≠[]→3≤es.length)
  {f':fZ} (hs:fillLast g b (a+1) (kd es (a+1))=some f'):Stp g f' t H P b h lo hi (kd es (a+1)) key:=by
 have fh:=aP am;have tr:=aP (show a<es.length by omega);obtain⟨es0,q1,e2,e3,e4,e5⟩:=(p.ok w.ok).1;rw[af]at q1;cases q1;have BN:=(dN hc).1 (e5 (a+1) am).2;obtain⟨⟨k',ses⟩,hd⟩:=w.ic.kid_live af tr;have Am:=(dN hd).1 (e5 a (by omega)).2;have pd:k'=k:=by
  cases h with
  | zero=>have a1:=BN.1;have a2:=Am.1;simp only at a1 a2;omega
  | succ h=>have a1:=BN.1;have a2:=Am.1;simp only at a1 a2;omega
 subst pd;have dw:2≤ses.length:=by have:=(e5 a (by omega)).1;unfold sz at this;rw[hd]at this;exact this
 have K9:ses.length≤5:=Am.node.le5;have g8:kd es (a+1)≠kd es a:=fun e=>by
  have:=dY (w.ic.only cc af fh).2.1 am (by omega) e.symm;omega
 have yz:ces≠[]:=fun e=>by rw[e]at au;simp at au
 unfold Fo.fillLast at hs;rw[aE af]at hs;simp only[Nat.add_sub_cancel]at hs;rw[aE hd]at hs;simp only at hs;by_cases kw:2<ses.length
 ·rw[if_pos kw]at hs
  cases al:shadow g (.ent b a)with
  | none=>rw[al]at hs;cases hs
  | some ks=>
   obtain⟨g2,s⟩:=ks;rw[al]at hs;simp only[sJ]at hs;obtain⟨w2,p2,p3,⟨es2,m1,m2,m3,m4⟩,m5,m6,m7,m8,m9⟩:=w.shadow_ent p af (show a<es.length by omega) al;obtain⟨s1,s2,s3⟩:=w.shadow_sib p af (show a<es.length by omega) al;obtain⟨x1,x2,x3⟩:=s2 _ fh g8;have mw:kd es2 (a+1)=kd es (a+1):=by unfold kd;rw[(s3 es2 m1 (a+1)).2 (by omega)]
   have jg:g2.nodes (kd es2 (a+1))=some (k',ces):=by rw[mw,x1];exact hc
   have tg:g2.nodes (kd es2 a)=some (k',ses):=by rw[m4,m5];exact hd
   obtain⟨es3,q1,_,_,_,e5'⟩:=(p2.ok w2.ok).1;rw[m1]at q1;cases q1;have Fd:=(dN jg).1 (e5' (a+1) (by omega)).2;have Cm:=(dN tg).1 (e5' a (by omega)).2;rw[cL _ (by omega)]at Cm;have JR:g2.nodes s=some (k',ses):=by rw[←m4];exact tg
   have AE:g2.nodes (kd es (a+1))=some (k',ces):=by rw[←mw];exact jg
   rw[aE AE,aE JR,aE m1]at hs;simp only at hs;have mv:=w2.move p2 m1 (a:=a) (by omega) tg jg (by rw[m4];exact m6) (by rw[mw,x2];exact cc) (les':=ses.take (ses.length-1)) (res':=ses.drop (ses.length-1)++ces) (mid:=ky ses (ses.length-1))
    (Cm.take (by omega) (by omega))
    ((Cm.drop (by omega)).join Fd (eD _) (nB (by omega)) yz (by rw[List.length_drop];omega)) (by rw[len_take' (by omega)];omega) (by rw[lP,List.length_drop];omega)
    (fun x=>by rw[nO,List.count_append];have:=kT k' ses (ses.length-1) x;omega)
    (fun e he=>by
     rcases he with he | he
     ·exact .inl (List.mem_of_mem_take he)
     ·rcases List.mem_append.1 he with he | he
      ·exact .inl (List.mem_of_mem_drop he)
      ·exact .inr he)
   rw[m4,mw]at mv;simp only at mv;rw[hs]at mv;obtain⟨v1,v2,v3,v4,v5,v6,v7,v8,v9⟩:=mv;have qf:(es2.set (a+1) (ky ses (ses.length-1),(es2.getD (a+1) e0).2)).length=es.length:=by simp[m2]
   refine⟨v1,m9.trans (hs▸aW.moveF ..),⟨_,_,v6⟩,v4,?_,?_,fun hr=>.inl (v2 (m8 hr)),.inl ⟨_,v3,by rw[qf];omega⟩⟩
   ·unfold sz;rw[v8];simp only[lP,List.length_drop];omega
   ·rw[bO v8]
    have oa:=x3 key h hm;rw[bO AE]at oa;exact oa.more (fun e he=>List.mem_append_right _ he) fun c bj h' gy=>v9 key c (.inr bj) h' gy
 ·rw[if_neg kw,aE hc]at hs
  simp only[sJ]at hs;have d8:(es.set (a+1) (ky es a,(es.getD (a+1) e0).2)).length=es.length:=by simp
  have g9:∀j,(es.set (a+1) (ky es a,(es.getD (a+1) e0).2)).getD j e0=if j=a+1 then(ky es a,(es.getD (a+1) e0).2)else es.getD j e0:=fun j=>bA _ _ _ _ _ am;have ie:∀j,(delE (es.set (a+1) (ky es a,(es.getD (a+1) e0).2)) a).getD j e0=if j<a then es.getD j e0 else if j=a then(ky es a,(es.getD (a+1) e0).2)else es.getD (j+1) e0:=fun j=>by
   rw[iG _ _ _ (by rw[d8];omega)];by_cases q:j<a
   ·rw[if_pos q,if_pos q,g9,if_neg (by omega)]
   ·rw[if_neg q,if_neg q,g9]
    by_cases q':j=a
    ·rw[if_pos (by omega),if_pos q']
    ·rw[if_neg (by omega),if_neg q']
  have AN:kids (2,es.set (a+1) (ky es a,(es.getD (a+1) e0).2))=kids (2,es):=by
   rw[gK,gK];refine List.ext_getElem? fun j=>?_;simp only[List.getElem?_map,List.getElem?_set];split
   ·rename_i e;subst e
    rw[gD,gE am];simp[am,ch]
   ·rfl
  have mg:=w.merge p af (a:=a) am (es':=delE (es.set (a+1) (ky es a,(es.getD (a+1) e0).2)) a) (.inr ⟨rfl,rfl,rfl,rfl⟩) hc hd cc (by omega) (by rw[bH _ _ (by rw[d8];omega),d8];omega)
   (fun j=>by
    rw[show ky (delE (es.set (a+1) (ky es a,(es.getD (a+1) e0).2)) a) j=((delE (es.set (a+1) (ky es a,(es.getD (a+1) e0).2)) a).getD j e0).1 from rfl,ie];by_cases q:j<a
    ·rw[if_pos q,if_pos (by omega)];rfl
    ·rw[if_neg q]
     by_cases q':j=a
     ·rw[if_pos q',if_pos (by omega),q']
     ·rw[if_neg q',if_neg (by omega)];rfl)
   (fun j=>by
    unfold kd;rw[ie];by_cases q:j<a
    ·rw[if_pos q,if_pos q]
    ·rw[if_neg q,if_neg q]
     by_cases q':j=a
     ·rw[if_pos q',if_pos q'];rfl
     ·rw[if_neg q',if_neg q'])
   (fun j hj=>by
    rw[bH _ _ (by rw[d8];omega),d8]at hj;rw[ie];split
    ·exact e4 j (by omega)
    ·split
     ·exact e4 _ am
     ·exact e4 _ (by omega))
   (fun x=>by
    have:=vD (es.set (a+1) (ky es a,(es.getD (a+1) e0).2)) a x (by rw[d8];omega)
    rw[g9,if_neg (by omega),AN]at this;exact this)
   (fun e he=>by
    obtain⟨j,hj,rfl⟩:=cY (nY he);rw[g9];split
    ·exact w.ic.child_pos af am
    ·exact w.ic.child_pos af (by rw[d8]at hj;exact hj)) h3
  simp only at mg
  rw[hs]at mg;obtain⟨v1,v2,v3,v4,v5,v6,v7⟩:=mg;have At:(delE (es.set (a+1) (ky es a,(es.getD (a+1) e0).2)) a).length=es.length-1:=by rw[bH _ _ (by rw[d8];omega),d8]
  have fg:(∃es',f'.nodes b=some (2,es')∧2≤es'.length)∨(P=[]∧∃e,f'.nodes b=some (2,[e])∧ch e=kd es (a+1)):=by
   by_cases q:3≤es.length
   ·exact .inl ⟨_,v3,by rw[At];omega⟩
   ·refine .inr ⟨by by_cases hP:P=[];exact hP;exact absurd (h3 hP) q,(ky es a,(es.getD (a+1) e0).2),?_,rfl⟩
    rw[v3];have hl:es.length=2:=by omega
    obtain rfl:a=0:=by omega
    match es,hl with
    | [x,y],_=>rfl
  refine⟨v1,hs▸aW.mergeF ..,⟨_,_,v5⟩,v4,?_,?_,fun hr=>?_,fg⟩
  ·unfold sz;rw[v6];simp only[lP];omega
  ·rw[bO v6]
   rw[bO hc]at hm;exact hm.more (fun e he=>List.mem_append_right _ he) fun c bj h' gy=>v7 key c bj h' gy
  ·by_cases q:3≤es.length
   ·exact .inl (v2 q hr)
   ·rcases fg with⟨es',n1,n2⟩ | q'
    ·rw[v3]at n1;cases n1;rw[At]at n2;omega
    ·exact .inr q'
theorem Stp.before{f1:fZ}(s:Stp f1 g t H P b h lo hi c key)(hs:aW f f1)(hr:cD f t H→cD f1 t H):Stp f g t H P b h lo hi c key:=
 ⟨s.wk,hs.trans s.same,s.path,s.up,s.spare,s.mem,fun q=>s.rt (hr q),s.many⟩
theorem Wk.stepDel(w:Wk f t H)(p:aN f t H P b (h+1) lo hi)(hr:cD f t H)(h3:P≠[]→3≤sz f.nodes b)(hm:Mem f.nodes (h+1) b key)(hs:stepDel f b key=some (g,c)):Stp f g t H P b h lo hi c key:=by
 obtain⟨es,af,qg,av⟩:=p.inner w;have vj:=Mem.at af (p.ok w.ok).1 hm;have h2:2≤es.length:=by
  by_cases hP:P=[]
  ·rcases p.top with⟨_,q,q'⟩ | ⟨q,_⟩
   ·rcases hr with hr | hr
    ·omega
    ·rw[←q]at hr;unfold sz at hr;rw[af]at hr;exact hr
   ·rw[hP]at q;cases q
  ·have:=h3 hP;unfold sz at this;rw[af]at this;simp only at this;omega
 have PL:P≠[]→3≤es.length:=fun hP=>by have:=h3 hP;unfold sz at this;rw[af]at this;exact this
 unfold Fo.stepDel at hs;rw[aE af]at hs;simp only at hs;have ew:=eE key av;generalize bK es key=i at *;cases al:shadow f (.ent b i)with
 | none=>rw[al]at hs;cases hs
 | some gc=>
  obtain⟨g1,c1⟩:=gc;rw[al]at hs;simp only at hs;obtain⟨w2,p2,p3,⟨es2,m1,m2,m3,m4⟩,m5,m6,m7,m8,m9⟩:=w.shadow_ent p af ew al;obtain⟨s1,s2,s3⟩:=w.shadow_sib p af ew al;obtain⟨⟨k,ces⟩,hd⟩:=w2.ic.live (x:=c1) (by rw[m6];omega);have xl:2≤ces.length:=by
   have:=(p3.ok w2.ok).2 (by simp);unfold sz at this;rw[hd]at this;exact this
  rw[aE hd,aE m1]at hs;simp only at hs;have RQ:=s1 key h vj;by_cases q:2<ces.length
  ·rw[if_pos q]at hs
   simp only[sJ,Prod.mk.injEq]at hs;obtain⟨rfl,rfl⟩:=hs;exact⟨w2,m9,⟨_,_,p3⟩,p2,by unfold sz;rw[hd];exact q,RQ,fun q=>.inl (m8 q),.inl ⟨es2,m1,by omega⟩⟩
  ·rw[if_neg q]at hs
   subst m4;by_cases q':i+1<es2.length
   ·rw[if_pos q']at hs
    cases hf:Fo.fillNext g1 b i (kd es2 i)with
    | none=>rw[hf]at hs;cases hs
    | some f'=>
     rw[hf]at hs;simp only[Option.map_some,sJ,Prod.mk.injEq]at hs;obtain⟨rfl,rfl⟩:=hs;exact(w2.fillNext p2 m1 q' hd m6 (by omega) RQ (fun hP=>by rw[m2];exact PL hP) hf).before m9 m8
   ·rw[if_neg q']at hs
    cases hf:Fo.fillLast g1 b i (kd es2 i)with
    | none=>rw[hf]at hs;cases hs
    | some f'=>
     rw[hf]at hs;simp only[Option.map_some,sJ,Prod.mk.injEq]at hs;obtain⟨rfl,rfl⟩:=hs;obtain⟨a,rfl⟩:∃a,i=a+1:=⟨i-1,by omega⟩;exact(w2.fillLast p2 m1 (by omega) q' hd m6 (by omega) RQ (fun hP=>by rw[m2];exact PL hP) hf).before m9 m8
theorem aDL(h:eB es lo hi)(ha:a<es.length):eB (delE es a) lo hi:=by
 have gj:∀j,ky (delE es a) j=if j<a then ky es j else ky es (j+1):=fun j=>by
  unfold ky;rw[iG _ _ _ (by omega)];split<;>rfl
 have hl:=bH es a ha;refine⟨fun i j im hj=>?_,fun j hj=>?_,fun j hj=>?_,by have:=h.le5;omega⟩
 ·rw[gj,gj]
  by_cases q:i<a
  ·rw[if_pos q];split
   ·exact h.srt i j im (by omega)
   ·exact h.srt i _ (by omega) (by omega)
  ·rw[if_neg q,if_neg (by omega)];exact h.srt _ _ (by omega) (by omega)
 ·rw[gj];split
  ·exact h.lo j (by omega)
  ·exact h.lo _ (by omega)
 ·rw[gj];split
  ·exact h.hi j (by omega)
  ·exact h.hi _ (by omega)
theorem jT(hs:Srt es){j:Nat}(hj:j<es.length)(e:ky es j=key):fD es key=true∧cLt es key=j:=by
 have a:cLt es key=j:=by
  have h1:¬j<cLt es key:=fun q=>by
   have:=(gW hs key hj).2 q;rw[e,eD]at this;cases this
  have h2:∀i,i<j→i<cLt es key:=fun i hi=>(gW hs key (by omega)).1 (by rw[←e];exact hs i j hi hj);by_cases q:j=0
  ·omega
  ·have:=h2 (j-1) (by omega);omega
 exact⟨(dJ es key).2 ⟨by omega,by rw[a];exact e⟩,a⟩
theorem rF:∀{h H:Nat} {f:fZ} (w:Wk f t H) {P:List Nat} {b:Nat} {lo hi:OB} (p:aN f t H P b h lo hi) (h3:P≠[]→3≤sz f.nodes b) (hr:cD f t H) (hm:Mem f.nodes h b key) {g:fZ} (hs:delAt h f t b key=some g),
  ∃H',Wk g t H'∧cD g t H'∧aW f g
 | 0,H,f,w,P,b,lo,hi,p,h3,hr,hm,g,hs=>by
  obtain⟨es,af,hn,hc⟩:=p.leaf w;obtain⟨es',q1,j,hj,hk⟩:=hm;rw[af]at q1;cases q1;unfold delAt at hs;rw[aE af]at hs;simp only[sJ]at hs;subst hs;have ha:cLt es key<es.length:=by rw[(jT hn.srt hj hk).2];exact hj
  obtain⟨a1,a2⟩:=w.leaf p af (aDL hn ha) (fun i am=>by
   rw[bH _ _ ha]at am;rw[iG _ _ _ (by omega)];split
   ·exact hc i (by omega)
   ·exact hc _ (by omega)) (fun hP=>by
   have:=h3 hP;unfold sz at this;rw[af]at this;simp only at this
   rw[bH _ _ ha];omega)
  exact⟨H,a1,a2 hr,aW.setN _ _ _⟩
 | h+1,H,f,w,P,b,lo,hi,p,h3,hr,hm,g,hs=>by
  unfold delAt at hs;cases mm:stepDel f b key with
  | none=>rw[mm]at hs;cases hs
  | some gc=>
   obtain⟨g1,c⟩:=gc;rw[mm]at hs;simp only at hs;have st:=w.stepDel p hr h3 hm mm;obtain⟨lo',am,pc⟩:=st.path;rcases st.many with⟨es,n1,n2⟩ | ⟨hP,e,n1,n2⟩
   ·rw[aE n1]at hs
    simp only at hs
    rw[if_neg (by omega)]at hs;have er:cD g1 t H:=by
     rcases st.rt hr with q | ⟨_,e,q,_⟩
     ·exact q
     ·rw[n1]at q;cases q;simp at n2
    obtain⟨H',a1,a2,a3⟩:=rF st.wk pc (fun _=>st.spare) er st.mem hs;exact⟨H',a1,a2,st.same.trans a3⟩
   ·rw[aE n1]at hs
    rw[if_pos (show([e]:List E3).length=1 from rfl)]at hs;have iw:kd [e] 0=ch e:=rfl;rw[iw]at hs;subst hP;rcases st.up.top with⟨_,q,q'⟩ | ⟨q,_⟩
    ·subst q'
     rw[q]at n1;have en:cu g1 (aB g1 t)=1:=by have:=(st.up.named st.wk.ic st.wk.tl b List.mem_cons_self).1;rw[q]at this;exact this
     have jg:cu g1 (ch e)=1:=by rw[n2];exact(pc.named st.wk.ic st.wk.tl c List.mem_cons_self).1
     obtain⟨v1,v2,v3,v4,v5,v6⟩:=st.wk.fall n1 en jg;rw[n2]at v1 v2 v3 v4 v5 v6 hs;obtain⟨H',a1,a2,a3⟩:=rF v1 v2 (fun q=>absurd rfl q) v4 (v6 key st.mem) hs;exact⟨H',a1,a2,(st.same.trans (aW.fallF ..)).trans a3⟩
    ·cases q
theorem vL(w:Wk f t H)(hr:cD f t H)(hm:Mem f.nodes H (aB f t) key)(hs:bV f t H key=some g):∃H',Wk g t H'∧cD g t H'∧aW f g:=by
 unfold bV at hs;cases al:shadow f (.root t)with
 | none=>rw[al]at hs;cases hs
 | some gr=>
  obtain⟨g1,r⟩:=gr;rw[al]at hs;simp only at hs;obtain⟨w1,p1,a1,a2,a3,a4,a5,a6⟩:=w.shadow_root al;have vj:Mem g1.nodes H r key:=by
   unfold shadow at al;have hg:bI f (.root t)=aB f t:=rfl;rw[hg]at al;by_cases ho:own f (aB f t)
   ·rw[if_pos ho]at al;cases al;exact hm
   ·rw[if_neg ho]at al
    by_cases hl:aF f=0
    ·rw[if_pos hl]at al;cases al
    ·rw[if_neg hl]at al
     simp only[sJ,Prod.mk.injEq]at al;obtain⟨g9,yf⟩:=al;obtain⟨l1,l2,l3,_⟩:=aR hl;obtain⟨d,hd⟩:=w.ic.root_live (aO w.tl);have fy:f.nodes (aB f t)=some d:=hd;obtain⟨I1,I2,_⟩:=w.ic.shadow (L:=.root t) w.tl rfl hd l1 l2 l3;have de:f.nodes (aF f)=none:=(w.ic.dom.dead _).2 l3;have vq:g1.nodes=if cu f (aB f t)=1 then upd (upd f.nodes (aF f) (some d)) (aB f t) none else upd f.nodes (aF f) (some d):=by rw[←g9];exact I2
     let U:Nat→Prop:=fun x=>(∃d,f.nodes x=some d)∧(cu f (aB f t)=1→x≠aB f t)
     have lj:∀x d,U x→f.nodes x=some d→∀c∈kids d,U c:=fun x d' _ hx c bj=>
      ⟨w.ic.kid_live hx bj,fun h1 e=>(w.ic.onlyRoot (aO w.tl) h1).2 x d' hx (by have:c=(f.roots.getD t (0,0)).2.toNat:=e;rw[←this];exact bj)⟩
     have gd:∀x,U x→g1.nodes x=f.nodes x:=fun x ⟨⟨d',hx⟩,h1⟩=>by
      have Bz:x≠aF f:=fun e=>by rw[e,de]at hx;cases hx
      rw[vq];split
      ·rename_i nk;rw[aC _ _ (h1 nk),aC _ _ Bz]
      ·rw[aC _ _ Bz]
     have nr:g1.nodes r=some d:=by rw[a2];exact fy
     rw[bO nr];rw[bO fy]at hm;obtain⟨k,des⟩:=d;exact hm.more (fun e he=>he) fun c bj h' gy=>Mem.frame lj gd _ _ ⟨w.ic.kid_live fy bj,fun _ e=>w.ic.not_self fy (e▸bj)⟩ gy
  obtain⟨H',b1,b2,b3⟩:=rF w1 p1 (fun q=>absurd rfl q) (a5 hr) vj hs;exact⟨H',b1,b2,a6.trans b3⟩
