import Derived.Test.YtaahkgkdpnnhhaaGreatFo14
set_option linter.all false
namespace Go.Proofs.YtaahkgkdpnnhhaaGreat.Fo
theorem aN.cl{f:fZ}{t H:Nat}(h:IC f)(ht:t<f.roots.length){P:List Nat}{b hb:Nat}{lo hi:OB}(p:aN f t H P b hb lo hi){es:List E3}{k:Int}(hes:f.nodes b=some (k,es))
  {nodes':Nat→Option Nd} (C:Nat→Prop) (hC:∀x,C x→cu f x=1∧x∈kids (k,es)) (hN:∀x d,f.nodes x=some d→x≠b→¬C x→nodes' x=some d):
  ∃U:Nat→Prop,(∀x d,U x→f.nodes x=some d→∀c∈kids d,U c)∧(∀x,U x→nodes' x=f.nodes x)∧∀x d,f.nodes x=some d→x∉b :: P→¬C x→U x:=by
 have hnm:=p.named h ht;refine⟨fun x=>(∃d,f.nodes x=some d)∧x∉b :: P∧¬C x,fun x d ⟨_,hx2,hx3⟩ hx c hc=>?_,fun x ⟨⟨d,hd⟩,hx2,hx3⟩=>?_,fun x d hx h1 h2=>⟨⟨d,hx⟩,h1,h2⟩⟩
 ·refine⟨h.kid_live hx hc,fun hm=>?_,fun hcc=>?_⟩
  ·exact hx2 (List.mem_cons_of_mem _ ((hnm c hm).2.1 x d hx hc))
  ·have:=(h.only (hC c hcc).1 hes (hC c hcc).2).2.2 x d hx hc
   exact hx2 (this▸List.mem_cons_self)
 ·rw[hd];exact hN x d hd (fun e=>hx2 (e▸List.mem_cons_self)) hx3
def kX(nodes:Nat→Option Nd)(h:Nat)(d:Nd)(key:ByteArray):Prop:=match h with
 | 0=>d.1=1∧∃e∈d.2,e.1=key
 | h+1=>d.1=2∧∃e∈d.2,Mem nodes h (ch e) key
theorem bN{nodes:Nat→Option Nd}{h b:Nat}{key:ByteArray}{d:Nd}(hd:nodes b=some d):Mem nodes h b key↔kX nodes h d key:=by
 obtain⟨k,es⟩:=d;cases h with
 | zero=>
  constructor
  ·rintro⟨es',e1,j,hj,e2⟩;rw[hd]at e1;cases e1;exact⟨rfl,_,oO hj,e2⟩
  ·rintro⟨e1,e,he,e2⟩;simp only at e1 he;subst e1
   obtain⟨j,hj,rfl⟩:=dP he;exact⟨es,hd,j,hj,e2⟩
 | succ h=>
  constructor
  ·rintro⟨es',e1,j,hj,e2⟩;rw[hd]at e1;cases e1;exact⟨rfl,_,oO hj,e2⟩
  ·rintro⟨e1,e,he,e2⟩;simp only at e1 he;subst e1
   obtain⟨j,hj,rfl⟩:=dP he;exact⟨es,hd,j,hj,e2⟩
theorem kX.more{nodes nodes':Nat→Option Nd}{h:Nat}{k:Int}{es es':List E3}{key:ByteArray}(hm:kX nodes h (k,es) key)(hs:∀e∈es,e∈es')(hf:∀c∈kids (k,es),∀h',Mem nodes h' c key→Mem nodes' h' c key):kX nodes' h (k,es') key:=by
 cases h with
 | zero=>obtain⟨e1,e,he,e2⟩:=hm;exact⟨e1,e,hs e he,e2⟩
 | succ h=>
  obtain⟨e1,e,he,e2⟩:=hm;simp only at e1 he;subst e1;exact⟨rfl,e,hs e he,hf _ (aU.2 ⟨e,he,rfl⟩) _ e2⟩
theorem aDC{nodes:Nat→Option Nd}{h b:Nat}{lo hi:OB}{es:List E3}(hd:nodes b=some (2,es))(hn:eA es lo hi)(h0:es≠[])(hv:∀i,i<es.length→(es.getD i e0).2.1=ByteArray.empty)(hk:∀i,i<es.length→2≤sz nodes (kd es i)∧Ok nodes h (kd es i) (some (ky es i)) (nxt es i hi)):Ok nodes (h+1) b lo hi:=⟨es,hd,hn,h0,hv,hk⟩
theorem Wk.move{f:fZ}{t H:Nat}(w:Wk f t H){P:List Nat}{b h:Nat}{lo hi:OB}(p:aN f t H P b (h+1) lo hi){es:List E3}(hes:f.nodes b=some (2,es)){a:Nat}(ha:a+1<es.length){k:Int}{les res les' res':List E3}{mid:ByteArray}
  (hl:f.nodes (kd es a)=some (k,les)) (hr:f.nodes (kd es (a+1))=some (k,res)) (cl:cu f (kd es a)=1) (cr:cu f (kd es (a+1))=1)
  (okl:OkN f.nodes h (k,les') (some (ky es a)) (some mid)) (okr:OkN f.nodes h (k,res') (some mid) (nxt es (a+1) hi)) (zl:2≤les'.length) (zr:2≤res'.length)
  (hall:∀x,(kids (k,les')).count x+(kids (k,res')).count x=(kids (k,les)).count x+(kids (k,res)).count x) (hin:∀e,e∈les'∨e∈res'→e∈les∨e∈res):
  let es':=es.set (a+1) (mid,(es.getD (a+1) e0).2)
  let f':=moveF f b (kd es a) (kd es (a+1)) k les' res' es'
  Wk f' t H∧(cD f t H→cD f' t H)∧f'.nodes b=some (2,es')∧aN f' t H P b (h+1) lo hi∧aN f' t H (b :: P) (kd es a) h (some (ky es a)) (some mid)∧aN f' t H (b :: P) (kd es (a+1)) h (some mid) (nxt es (a+1) hi)∧
   f'.nodes (kd es a)=some (k,les')∧f'.nodes (kd es (a+1))=some (k,res')∧(∀key c,c∈kids (k,les)∨c∈kids (k,res)→∀h',Mem f.nodes h' c key→Mem f'.nodes h' c key):=by
 intro es' f';have hlk:=aO (show a<es.length by omega);have hrk:=aO ha;have hlr:kd es a≠kd es (a+1):=fun e=>by
  have:=dW (w.ic.only cl hes hlk).2.1 (by omega) ha e.symm;omega
 have hlen:es'.length=es.length:=by simp[es']
 have hget:∀j,es'.getD j e0=if j=a+1 then(mid,(es.getD (a+1) e0).2)else es.getD j e0:=fun j=>bA _ _ _ _ _ ha;have hky:∀j,ky es' j=if j=a+1 then mid else ky es j:=fun j=>by unfold ky;rw[hget];split<;>rfl
 have hkd:∀j,kd es' j=kd es j:=fun j=>by
  unfold kd;rw[hget];split
  ·rename_i e;rw[e];rfl
  ·rfl
 have hks:kids (2,es')=kids (2,es):=by
  rw[gL,gL];refine List.ext_getElem? fun j=>?_;simp only[List.getElem?_map,es',List.getElem?_set];split
  ·rename_i e;subst e
   rw[gD,gE ha];rfl
  ·rfl
 obtain⟨es0,q1,e2,e3,e4,e5⟩:=(p.ok w.ok).1;rw[hes]at q1;cases q1;obtain⟨I1,I2⟩:=w.ic.move (pes':=es') (ces':=les') (ses':=res') hes hlk hrk hlr hl hr hks (fun e he=>by
  obtain⟨j,hj,rfl⟩:=dP he;rw[hget];split
  ·exact w.ic.child_pos hes ha
  ·exact w.ic.child_pos hes (by omega)) hall hin ⟨by intro e;rw[e]at zl;simp at zl,by intro e;rw[e]at zr;simp at zr⟩
 have hlb:kd es a≠b:=fun e=>w.ic.not_self hes (by rw[←e];exact hlk);have hrb:kd es (a+1)≠b:=fun e=>w.ic.not_self hes (by rw[←e];exact hrk);have nb:f'.nodes b=some (2,es'):=by rw[I2,aD]
 have nr:f'.nodes (kd es (a+1))=some (k,res'):=by rw[I2,aC _ _ hrb,aD]
 have nl:f'.nodes (kd es a)=some (k,les'):=by rw[I2,aC _ _ hlb,aC _ _ hlr,aD]
 have nx:∀x,x≠b→x≠kd es a→x≠kd es (a+1)→f'.nodes x=f.nodes x:=fun x h1 h2 h3=>by rw[I2,aC _ _ h1,aC _ _ h3,aC _ _ h2]
 have hCc:∀x,(x=kd es a∨x=kd es (a+1))→cu f x=1∧x∈kids (2,es):=fun x q=>by
  rcases q with q | q
  ·rw[q];exact⟨cl,hlk⟩
  ·rw[q];exact⟨cr,hrk⟩
 have hNn:∀x d,f.nodes x=some d→x≠b→¬(x=kd es a∨x=kd es (a+1))→f'.nodes x=some d:=fun x d hx hxb hxc=>by
  rw[nx x hxb (fun e=>hxc (.inl e)) (fun e=>hxc (.inr e))];exact hx
 obtain⟨U,hUc,hUe,hU⟩:=p.cl w.ic w.tl hes (fun x=>x=kd es a∨x=kd es (a+1)) hCc hNn;have hUk:∀c,c∈kids (k,les)∨c∈kids (k,res)→U c:=fun c hc=>by
  obtain⟨ht',hh⟩:=w.ic.ht;have key:∀{s:Nat} {ses:List E3},s∈kids (2,es)→f.nodes s=some (k,ses)→c∈kids (k,ses)→U c:=fun {s ses} hs hd hc=>by
   obtain⟨dc,hdc⟩:=w.ic.kid_live hd hc;obtain⟨o1,o2⟩:=p.kid2_off w.ic hes hs hd hc;exact hU c dc hdc o1 fun q=>by
    rcases q with q | q
    ·exact o2 (q▸hlk)
    ·exact o2 (q▸hrk)
  rcases hc with hc | hc
  ·exact key hlk hl hc
  ·exact key hrk hr hc
 have frK:∀{ds:List E3},(∀e∈ds,e∈les∨e∈res)→∀c∈kids (k,ds),∀h' lo' hi',Ok f.nodes h' c lo' hi'→Ok f'.nodes h' c lo' hi'∧sz f'.nodes c=sz f.nodes c:=fun {ds} hds c hc h' lo' hi' hk=>by
  obtain⟨rfl,e,he,rfl⟩:=cL hc;have:U (ch e):=hUk _ ((hds e he).imp (fun q=>aU.2 ⟨e,q,rfl⟩) fun q=>aU.2 ⟨e,q,rfl⟩);exact⟨Ok.frame hUc hUe _ _ _ _ this hk,by unfold sz;rw[hUe _ this]⟩
 have okl':Ok f'.nodes h (kd es a) (some (ky es a)) (some mid):=(dK nl).2 (okl.kids (frK fun e he=>hin e (.inl he)));have okr':Ok f'.nodes h (kd es (a+1)) (some mid) (nxt es (a+1) hi):=(dK nr).2 (okr.kids (frK fun e he=>hin e (.inr he)));have hmlo:kl (ky es a) mid=true:=by
  have:=okl.node.lo 0 (by simp only;omega)
  have h2:=okl.node.hi 0 (by simp only;omega);exact lG this h2
 have hmhi:hiR (nxt es (a+1) hi) mid:=by
  have h1:=okr.node.lo 0 (by simp only;omega);have h2:=okr.node.hi 0 (by simp only;omega);cases hx:nxt es (a+1) hi with
  | none=>trivial
  | some u=>rw[hx]at h2;exact lG h1 h2
 have hmn:∀j,a+1<j→j<es.length→kl mid (ky es j)=true:=fun j hj hjl=>by
  have:kl mid (ky es (a+1+1))=true:=by rw[cI _ (by omega)]at hmhi;exact hmhi
  by_cases e:j=a+1+1
  ·rw[e];exact this
  ·exact kG this (e2.srt _ _ (by omega) hjl)
 have hnx:∀j,j≠a→nxt es' j hi=nxt es j hi:=fun j hj=>by
  unfold nxt;rw[hlen,hky,if_neg (show ¬j+1=a+1 by omega)]
 have hnxa:nxt es' a hi=some mid:=by rw[cI _ (by rw[hlen];exact ha),hky,if_pos rfl]
 have hne:∀y∈P,y≠b:=fun y hy e=>by
  obtain⟨ht',hh⟩:=w.ic.ht;have:=p.high hh y hy;rw[e]at this;omega
 have hPn:∀y∈P,f'.nodes y=f.nodes y:=fun y hy=>nx y (hne y hy) (fun e=>p.kid_off w.ic hes hlk (e▸List.mem_cons_of_mem _ hy)) (fun e=>p.kid_off w.ic hes hrk (e▸List.mem_cons_of_mem _ hy));have p':aN f' t H P b (h+1) lo hi:=p.mono rfl (fun _ _=>rfl) hPn;have hok:Ok f'.nodes (h+1) b lo hi:=by
  refine aDC nb ⟨fun i j hij hj=>?_,fun j hj=>?_,fun j hj=>?_,by rw[hlen];exact e2.le5⟩ (fun e=>e3 (List.length_eq_zero_iff.1 (by rw[←hlen,e];rfl))) (fun j hj=>?_) fun j hj=>?_
  ·rw[hlen]at hj
   rw[hky,hky];by_cases i1:i=a+1
   ·rw[if_pos i1,if_neg (by omega)];exact hmn j (by omega) hj
   ·rw[if_neg i1]
    by_cases j1:j=a+1
    ·rw[if_pos j1]
     by_cases e:i=a
     ·rw[e];exact hmlo
     ·exact kG (e2.srt i a (by omega) (by omega)) hmlo
    ·rw[if_neg j1];exact e2.srt i j hij hj
  ·rw[hlen]at hj
   rw[hky];split
   ·exact aHF hmlo (e2.lo a (by omega))
   ·exact e2.lo j hj
  ·rw[hlen]at hj
   rw[hky];split
   ·by_cases e:a+1+1<es.length
    ·exact sT (hmn _ (by omega) e) (e2.hi _ e)
    ·rw[eN _ e]at hmhi;exact hmhi
   ·exact e2.hi j hj
  ·rw[hlen]at hj
   rw[hget];split
   ·exact e4 _ ha
   ·exact e4 j hj
  ·rw[hlen]at hj
   rw[hkd,hky];by_cases j1:j=a+1
   ·rw[if_pos j1,j1,hnx _ (by omega)]
    exact⟨by unfold sz;rw[nr];exact zr,okr'⟩
   ·rw[if_neg j1]
    by_cases j2:j=a
    ·rw[j2,hnxa];exact⟨by unfold sz;rw[nl];exact zl,okl'⟩
    ·rw[hnx j j2]
     obtain⟨dj,hdj⟩:=w.ic.kid_live hes (aO hj);have:U (kd es j):=hU _ dj hdj (p.kid_off w.ic hes (aO hj)) fun q=>by
      rcases q with q | q
      ·exact j2 (dW (w.ic.only cl hes hlk).2.1 (by omega) hj q)
      ·exact j1 (dW (w.ic.only cr hes hrk).2.1 ha hj q)
     exact⟨by unfold sz;rw[hUe _ this];exact(e5 j hj).1,Ok.frame hUc hUe _ _ _ _ this (e5 j hj).2⟩
 have hsz:sz f'.nodes b=sz f.nodes b:=by unfold sz;rw[nb,hes];exact hlen
 refine⟨w.step p I1 rfl hes _ hCc hNn hok (fun hP=>by rw[hsz];exact(p.ok w.ok).2 hP),fun hrt=>p.rt rfl hPn (fun h0 hP=>?_) hrt,nb,p',?_,?_,nl,nr,fun key c hc h' hm=>Mem.frame hUc hUe _ _ (hUk c hc) hm⟩
 ·rw[hsz]
  rcases hrt with q | q
  ·omega
  ·rcases p.top with⟨_,q',_⟩ | ⟨q',_⟩
   ·rw[q'];exact q
   ·rw[hP]at q';cases q'
 ·have:=aN.down p' nb (i:=a) (by rw[hlen];omega) (by rw[hkd];exact cl)
  rw[hkd,hky,if_neg (by omega),hnxa]at this;exact this
 ·have:=aN.down p' nb (i:=a+1) (by rw[hlen];omega) (by rw[hkd];exact cr)
  rw[hkd,hky,if_pos rfl,hnx _ (by omega)]at this;exact this
theorem Wk.merge{f:fZ}{t H:Nat}(w:Wk f t H){P:List Nat}{b h:Nat}{lo hi:OB}(p:aN f t H P b (h+1) lo hi){es es':List E3}(hes:f.nodes b=some (2,es)){a:Nat}(ha:a+1<es.length){k:Int}{les res ces ses:List E3}{c s:Nat}
  (hcs:(c=kd es a∧s=kd es (a+1)∧ces=les∧ses=res)∨(c=kd es (a+1)∧s=kd es a∧ces=res∧ses=les)) (hc:f.nodes c=some (k,ces)) (hs:f.nodes s=some (k,ses)) (cc:cu f c=1)
  (h5:les.length+res.length≤5) (hlen:es'.length+1=es.length) (hky:∀j,ky es' j=if j≤a then ky es j else ky es (j+1)) (hkd:∀j,kd es' j=if j<a then kd es j else if j=a then c else kd es (j+1))
  (hv:∀j,j<es'.length→(es'.getD j e0).2.1=ByteArray.empty) (hcnt:∀x,(kids (2,es')).count x+one s x=(kids (2,es)).count x) (hpos:∀e∈es',0≤e.2.2) (h3:P≠[]→3≤es.length):
  let f':=mergeF f b c s k (les++res) es'
  Wk f' t H∧(3≤es.length→cD f t H→cD f' t H)∧f'.nodes b=some (2,es')∧aN f' t H P b (h+1) lo hi∧aN f' t H (b :: P) c h (some (ky es a)) (nxt es (a+1) hi)∧f'.nodes c=some (k,les++res)∧
   (∀key x,x∈kids (k,ces)→∀h',Mem f.nodes h' x key→Mem f'.nodes h' x key):=by
 intro f';have hlk:=aO (show a<es.length by omega);have hrk:=aO ha;have hck:c∈kids (2,es):=by rcases hcs with⟨q,_⟩ | ⟨q,_⟩<;>(rw[q];assumption)
 have hsk:s∈kids (2,es):=by rcases hcs with⟨_,q,_⟩ | ⟨_,q,_⟩<;>(rw[q];assumption)
 have hcs':c≠s:=fun e=>by
  rcases hcs with⟨q1,q2,_⟩ | ⟨q1,q2,_⟩
  ·have e':kd es (a+1)=kd es a:=by rw[←q1,←q2,e]
   have:=dW (by rw[←q1];exact(w.ic.only cc hes hck).2.1) (show a<es.length by omega) ha e';omega
  ·have e':kd es a=kd es (a+1):=by rw[←q1,←q2,e]
   have:=dW (by rw[←q1];exact(w.ic.only cc hes hck).2.1) ha (show a<es.length by omega) e';omega
 have hes0:es'≠[]:=fun e=>by rw[e]at hlen;simp at hlen;omega
 obtain⟨es0,q1,e2,e3,e4,e5⟩:=(p.ok w.ok).1;rw[hes]at q1;cases q1;have okl:OkN f.nodes h (k,les) (some (ky es a)) (some (ky es (a+1)))∧2≤les.length:=by
  have h1:=e5 a (by omega);rw[cI _ ha]at h1;rcases hcs with⟨q1,q2,q3,q4⟩ | ⟨q1,q2,q3,q4⟩
  ·rw[←q1]at h1;rw[←q3];exact⟨(dK hc).1 h1.2,by have:=h1.1;unfold sz at this;rw[hc]at this;exact this⟩
  ·rw[←q2]at h1;rw[←q4];exact⟨(dK hs).1 h1.2,by have:=h1.1;unfold sz at this;rw[hs]at this;exact this⟩
 have okr:OkN f.nodes h (k,res) (some (ky es (a+1))) (nxt es (a+1) hi)∧2≤res.length:=by
  have h1:=e5 (a+1) ha;rcases hcs with⟨q1,q2,q3,q4⟩ | ⟨q1,q2,q3,q4⟩
  ·rw[←q2]at h1;rw[←q4];exact⟨(dK hs).1 h1.2,by have:=h1.1;unfold sz at this;rw[hs]at this;exact this⟩
  ·rw[←q1]at h1;rw[←q3];exact⟨(dK hc).1 h1.2,by have:=h1.1;unfold sz at this;rw[hc]at this;exact this⟩
 have hl0:les≠[]:=fun e=>by rw[e]at okl;have:=okl.2;simp at this
 have hr0:res≠[]:=fun e=>by rw[e]at okr;have:=okr.2;simp at this
 have okj:OkN f.nodes h (k,les++res) (some (ky es a)) (nxt es (a+1) hi):=okl.1.join okr.1 (eD _) hl0 hr0 h5;have hmem:∀e,e∈les++res→e∈ces∨e∈ses:=fun e he=>by
  rcases hcs with⟨_,_,q3,q4⟩ | ⟨_,_,q3,q4⟩
  ·rw[q3,q4];exact List.mem_append.1 he
  ·rw[q3,q4];exact(List.mem_append.1 he).symm
 obtain⟨I1,I2⟩:=w.ic.merge (pes':=es') (ces':=les++res) hes hck hsk hcs' hc hs hcnt hpos hes0 (fun x=>by
  rw[oC,List.count_append];rcases hcs with⟨_,_,q3,q4⟩ | ⟨_,_,q3,q4⟩
  ·rw[q3,q4]
  ·rw[q3,q4];omega) hmem (by simp[hl0])
 have hcb:c≠b:=fun e=>w.ic.not_self hes (by rw[←e];exact hck);have hsb:s≠b:=fun e=>w.ic.not_self hes (by rw[←e];exact hsk);have nb:f'.nodes b=some (2,es'):=by
  rw[I2];split
  ·rw[aC _ _ (Ne.symm hsb),aD]
  ·rw[aD]
 have nc:f'.nodes c=some (k,les++res):=by
  rw[I2];split
  ·rw[aC _ _ hcs',aC _ _ hcb,aD]
  ·rw[aC _ _ hcb,aD]
 have nx:∀x,x≠b→x≠c→¬(x=s∧cu f s=1)→f'.nodes x=f.nodes x:=fun x h1 h2 h3=>by
  rw[I2];split
  ·rename_i q;rw[aC _ _ (fun e=>h3 ⟨e,q⟩),aC _ _ h1,aC _ _ h2]
  ·rw[aC _ _ h1,aC _ _ h2]
 have hCc:∀x,(x=c∨(x=s∧cu f s=1))→cu f x=1∧x∈kids (2,es):=fun x q=>by
  rcases q with q | ⟨q,q'⟩
  ·rw[q];exact⟨cc,hck⟩
  ·rw[q];exact⟨q',hsk⟩
 have hNn:∀x d,f.nodes x=some d→x≠b→¬(x=c∨(x=s∧cu f s=1))→f'.nodes x=some d:=fun x d hx hxb hxc=>by
  rw[nx x hxb (fun e=>hxc (.inl e)) (fun e=>hxc (.inr e))];exact hx
 obtain⟨U,hUc,hUe,hU⟩:=p.cl w.ic w.tl hes (fun x=>x=c∨(x=s∧cu f s=1)) hCc hNn;have hUk:∀x,x∈kids (k,ces)∨x∈kids (k,ses)→U x:=fun x hx=>by
  have key:∀{s':Nat} {ds:List E3},s'∈kids (2,es)→f.nodes s'=some (k,ds)→x∈kids (k,ds)→U x:=fun {s' ds} hs' hd hx=>by
   obtain⟨dc,hdc⟩:=w.ic.kid_live hd hx;obtain⟨o1,o2⟩:=p.kid2_off w.ic hes hs' hd hx;exact hU x dc hdc o1 fun q=>by
    rcases q with q | ⟨q,_⟩
    ·exact o2 (q▸hck)
    ·exact o2 (q▸hsk)
  rcases hx with hx | hx
  ·exact key hck hc hx
  ·exact key hsk hs hx
 have okc':Ok f'.nodes h c (some (ky es a)) (nxt es (a+1) hi):=(dK nc).2 (okj.kids fun x hx h' lo' hi' hk=>by
  obtain⟨rfl,e,he,rfl⟩:=cL hx;have:U (ch e):=hUk _ ((hmem e he).imp (fun q=>aU.2 ⟨e,q,rfl⟩) fun q=>aU.2 ⟨e,q,rfl⟩);exact⟨Ok.frame hUc hUe _ _ _ _ this hk,by unfold sz;rw[hUe _ this]⟩)
 have hnx:∀j,nxt es' j hi=if j<a then nxt es j hi else nxt es (j+1) hi:=fun j=>by
  by_cases j1:j<a
  ·rw[if_pos j1,cI _ (by omega),cI _ (by omega),hky,if_pos (by omega)]
  ·rw[if_neg j1]
   unfold nxt;by_cases j2:j+1<es'.length
   ·rw[if_pos j2,if_pos (by omega),hky,if_neg (by omega)]
   ·rw[if_neg j2,if_neg (by omega)]
 have hne:∀y∈P,y≠b:=fun y hy e=>by
  obtain⟨ht',hh⟩:=w.ic.ht;have:=p.high hh y hy;rw[e]at this;omega
 have hPn:∀y∈P,f'.nodes y=f.nodes y:=fun y hy=>nx y (hne y hy) (fun e=>p.kid_off w.ic hes hck (e▸List.mem_cons_of_mem _ hy)) (fun e=>p.kid_off w.ic hes hsk (e.1▸List.mem_cons_of_mem _ hy));have hs2:(setN (setN f c (k,les++res)) b (2,es')).nodes s=some (k,ses):=by
  show upd (upd f.nodes c _) b _ s=_
  rw[aC _ _ hsb,aC _ _ (Ne.symm hcs')];exact hs
 have hcu:∀y,y≠s→y∉kids (k,ses)→cu f' y=cu f y:=fun y h1 h2=>nF (f:=setN (setN f c (k,les++res)) b (2,es')) (w.ic.lt hs) hs2 (fun x hx=>w.ic.kid_lt hs hx) h1 h2;have hPc:∀y∈b :: P,cu f' y=cu f y:=fun y hy=>hcu y (fun e=>p.kid_off w.ic hes hsk (e▸hy)) (fun hk=>(p.kid2_off w.ic hes hsk hs hk).1 hy);have hr':f'.roots=f.roots:=dU _ _;have p':aN f' t H P b (h+1) lo hi:=p.mono (by unfold aB;rw[hr']) hPc hPn;have hok:Ok f'.nodes (h+1) b lo hi:=by
  refine aDC nb ⟨fun i j hij hj=>?_,fun j hj=>?_,fun j hj=>?_,by have:=e2.le5;omega⟩ hes0 hv fun j hj=>?_
  ·rw[hky,hky]
   by_cases i1:i≤a
   ·rw[if_pos i1]
    by_cases j1:j≤a
    ·rw[if_pos j1];exact e2.srt i j hij (by omega)
    ·rw[if_neg j1];exact e2.srt i _ (by omega) (by omega)
   ·rw[if_neg i1,if_neg (by omega)];exact e2.srt _ _ (by omega) (by omega)
  ·rw[hky];split
   ·exact e2.lo j (by omega)
   ·exact e2.lo _ (by omega)
  ·rw[hky];split
   ·exact e2.hi j (by omega)
   ·exact e2.hi _ (by omega)
  ·have other:∀j',j'<es.length→j'≠a→j'≠a+1→2≤sz f'.nodes (kd es j')∧Ok f'.nodes h (kd es j') (some (ky es j')) (nxt es j' hi):=fun j' hj' n1 n2=>by
    obtain⟨dj,hdj⟩:=w.ic.kid_live hes (aO hj');have:U (kd es j'):=hU _ dj hdj (p.kid_off w.ic hes (aO hj')) fun q=>by
     rcases q with q | ⟨q,q'⟩
     ·rcases hcs with⟨r1,_⟩ | ⟨r1,_⟩
      ·rw[r1]at q;exact n1 (dW (by rw[←r1];exact(w.ic.only cc hes hck).2.1) (by omega) hj' q)
      ·rw[r1]at q;exact n2 (dW (by rw[←r1];exact(w.ic.only cc hes hck).2.1) ha hj' q)
     ·rcases hcs with⟨_,r1,_⟩ | ⟨_,r1,_⟩
      ·rw[r1]at q;exact n2 (dW (by rw[←r1];exact(w.ic.only q' hes hsk).2.1) ha hj' q)
      ·rw[r1]at q;exact n1 (dW (by rw[←r1];exact(w.ic.only q' hes hsk).2.1) (by omega) hj' q)
    exact⟨by unfold sz;rw[hUe _ this];exact(e5 j' hj').1,Ok.frame hUc hUe _ _ _ _ this (e5 j' hj').2⟩
   rw[hkd,hky,hnx];by_cases j1:j<a
   ·rw[if_pos j1,if_pos (by omega),if_pos j1];exact other j (by omega) (by omega) (by omega)
   ·rw[if_neg j1,if_neg j1]
    by_cases j2:j=a
    ·rw[if_pos j2,if_pos (by omega),j2]
     exact⟨by unfold sz;rw[nc];simp only[lP];have:=okl.2;omega,okc'⟩
    ·rw[if_neg j2,if_neg (by omega)];exact other _ (by omega) (by omega) (by omega)
 have hsz:sz f'.nodes b=es'.length:=by unfold sz;rw[nb]
 refine⟨w.step p I1 hr' hes _ hCc hNn hok (fun hP=>by rw[hsz];have:=h3 hP;omega),fun h3' hrt=>p.rt (by unfold aB;rw[hr']) hPn (fun h0 hP=>by rw[hsz];omega) hrt,nb,p',?_,nc,fun key x hx h' hm=>Mem.frame hUc hUe _ _ (hUk x (.inl hx)) hm⟩;have hkc:kd es' a=c:=by rw[hkd,if_neg (by omega),if_pos rfl]
 have:=aN.down p' nb (i:=a) (by omega) (by rw[hkc,hcu c hcs' (fun hk=>(p.kid2_off w.ic hes hsk hs hk).2 hck)];exact cc)
 rw[hkc,hky,if_pos (nR a),hnx,if_neg (by omega)]at this;exact this
theorem Wk.fall{f:fZ}{t h:Nat}(w:Wk f t (h+1)){e:E3}(hes:f.nodes (aB f t)=some (2,[e]))(h1:cu f (aB f t)=1)(hc:cu f (ch e)=1):
  let f':=fallF f t (aB f t) (ch e)
  Wk f' t h∧aN f' t h [] (ch e) h none none∧aB f' t=ch e∧cD f' t h∧(∀x,x≠aB f t→f'.nodes x=f.nodes x)∧(∀key,Mem f.nodes h (ch e) key→Mem f'.nodes h (ch e) key):=by
 intro f';obtain⟨I1,I2⟩:=w.ic.fall (t:=t) (r:=aB f t) w.tl rfl hes h1;have ho:=w.ic.onlyRoot (aP w.tl) h1;have hk:ch e∈kids (2,[e]):=by simp[gL]
 have hr:aB f' t=ch e:=by
  show((f.roots.set t _).getD t (0,0)).2.toNat=_
  simp[gD,w.tl]
 have hru:∀u,u≠t→aB f' u=aB f u:=fun u hu=>by
  show((f.roots.set t _).getD u (0,0)).2.toNat=_
  unfold aB;simp only[gD,List.getElem?_set,if_neg (Ne.symm hu)]
 have nx:∀x,x≠aB f t→f'.nodes x=f.nodes x:=fun x hx=>by rw[I2,aC _ _ hx]
 let U:Nat→Prop:=fun x=>(∃d,f.nodes x=some d)∧x≠aB f t
 have hUc:∀x d,U x→f.nodes x=some d→∀c∈kids d,U c:=fun x d' _ hx c hc'=>
  ⟨w.ic.kid_live hx hc',fun e=>ho.2 x d' hx (by have:c=(f.roots.getD t (0,0)).2.toNat:=e;rw[←this];exact hc')⟩
 have hUe:∀x,U x→f'.nodes x=f.nodes x:=fun x ⟨_,h1⟩=>nx x h1;have hUk:U (ch e):=⟨w.ic.kid_live hes hk,fun q=>w.ic.not_self hes (q▸hk)⟩;obtain⟨es0,q1,_,_,_,e5⟩:=w.ok;rw[hes]at q1;cases q1;have h5:=e5 0 (by simp);have hkd:kd [e] 0=ch e:=rfl;rw[hkd]at h5;have okc:Ok f'.nodes h (ch e) none none:=(Ok.frame hUc hUe _ _ _ _ hUk h5.2).wide (fun _ _=>trivial) (fun _ _=>trivial);refine⟨⟨I1,by show t <(f.roots.set t _).length;simpa using w.tl,by rw[hr];exact okc,fun u hu hut=>?_⟩,?_,hr,.inr (by rw[hr];unfold sz;rw[hUe _ hUk];exact h5.1),nx,fun key hm=>Mem.frame hUc hUe _ _ hUk hm⟩
 ·have hu:u<f.roots.length:=by have:u <(f.roots.set t _).length:=hu;simpa using this
  obtain⟨h',g1,g2⟩:=w.oth u hu hut;have hUu:U (aB f u):=⟨w.ic.root_live (aP hu),nA w.ic w.tl hu hut h1⟩;refine⟨h',by rw[hru u hut];exact Ok.frame hUc hUe _ _ _ _ hUu g1,?_⟩;rcases g2 with g2 | g2
  ·exact .inl g2
  ·refine .inr ?_
   unfold sz at g2 ⊢;rw[hru u hut,hUe _ hUu];exact g2
 ·have hcr:ch e≠aB f t:=hUk.2
  have:=aN.here (f:=f') (t:=t) (H:=h) (by
   rw[hr];exact(fD f (aB f t) (ch e) 0 (w.ic.lt hes)).trans ((if_neg (Ne.symm hcr)).trans hc))
  rw[hr]at this;exact this
theorem Wk.shadow_sib{f:fZ}{t H:Nat}(w:Wk f t H){P:List Nat}{b h:Nat}{lo hi:OB}(p:aN f t H P b (h+1) lo hi){es:List E3}(hes:f.nodes b=some (2,es)){i:Nat}(hi':i<es.length){g:fZ}{c:Nat}(hs:shadow f (.ent b i)=some (g,c)):
  (∀key h',Mem f.nodes h' (kd es i) key→Mem g.nodes h' c key)∧(∀x∈kids (2,es),x≠kd es i→g.nodes x=f.nodes x∧cu g x=cu f x∧∀key h',Mem f.nodes h' x key→Mem g.nodes h' x key)∧
   (∀es',g.nodes b=some (2,es')→∀j,(es'.getD j e0).2.1=(es.getD j e0).2.1∧(j≠i→es'.getD j e0=es.getD j e0)):=by
 have hlk:look f b=(2,es):=aE hes;have hg:bJ f (.ent b i)=kd es i:=by simp only[bJ,hlk];rfl
 unfold shadow at hs;rw[hg]at hs;by_cases ho:own f (kd es i)
 ·rw[if_pos ho]at hs;cases hs
  exact⟨fun _ _ q=>q,fun _ _ _=>⟨rfl,rfl,fun _ _ q=>q⟩,fun es' h' j=>by rw[hes]at h';cases h';exact⟨rfl,fun _=>rfl⟩⟩
 ·rw[if_neg ho]at hs
  by_cases hl:aF f=0
  ·rw[if_pos hl]at hs;cases hs
  ·rw[if_neg hl]at hs;cases hs
   obtain⟨hq2,hqn,hc,_⟩:=aQ hl;generalize aF f=q at *;obtain⟨d,hd⟩:=w.ic.kid_live hes (aO hi');have hL:dQ f (.ent b i):=⟨w.ic.lt hes,es,hes,hi'⟩;obtain⟨I1,I2,I3,I4,I5⟩:=w.ic.shadow hL hg hd hq2 hqn hc;have hqd:f.nodes q=none:=(w.ic.dom.dead q).2 hc;have hck:=aO hi';have hcb:kd es i≠b:=fun e=>w.ic.not_self hes (by rw[←e];exact hck);have hcq:kd es i≠q:=fun e=>by rw[e,hqd]at hd;cases hd
   have hbq:b≠q:=fun e=>by rw[e,hqd]at hes;cases hes
   have hns:=w.ic.not_self hd;have nb:(shadowAt f (.ent b i) q).nodes b=some (setE (2,es) i q):=by
    rw[I2];unfold shN cpN;simp only[hlk];split
    ·rw[aC _ _ (Ne.symm hcb),aD]
    ·rw[aD]
   have nq:(shadowAt f (.ent b i) q).nodes q=some d:=by
    rw[I2];unfold shN cpN;simp only;split
    ·rw[aC _ _ (Ne.symm hcq),aC _ _ (Ne.symm hbq),aD]
    ·rw[aC _ _ (Ne.symm hbq),aD]
   have nx:∀x,x≠b→x≠q→¬(x=kd es i∧cu f (kd es i)=1)→(shadowAt f (.ent b i) q).nodes x=f.nodes x:=fun x h1 h2 h3=>by
    rw[I2];unfold shN cpN;simp only;split
    ·rename_i hcu
     rw[aC _ _ (fun e=>h3 ⟨e,hcu⟩),aC _ _ h1,aC _ _ h2]
    ·rw[aC _ _ h1,aC _ _ h2]
   have hlive:∀{x:Nat} {d':Nd},f.nodes x=some d'→x≠q:=fun hx e=>by rw[e,hqd]at hx;cases hx
   obtain⟨U,hUc,hUe,hU⟩:=p.cl w.ic w.tl hes (nodes':=(shadowAt f (.ent b i) q).nodes) (fun x=>x=kd es i∧cu f (kd es i)=1) (fun x ⟨q1,q2⟩=>⟨by rw[q1];exact q2,by rw[q1];exact hck⟩) (fun x d hx hxb hxc=>by rw[nx x hxb (hlive hx) hxc];exact hx);refine⟨fun key h' hm=>?_,fun x hx hxi=>?_,fun es' h' j=>?_⟩
   ·rw[bN nq]
    rw[bN hd]at hm;obtain⟨k,des⟩:=d;refine hm.more (fun e he=>he) fun c hc' h'' hm'=>?_;obtain⟨dc,hdc⟩:=w.ic.kid_live hd hc';exact Mem.frame hUc hUe _ _ (hU c dc hdc (p.kid2_off w.ic hes hck hd hc').1 fun q'=>hns (q'.1▸hc')) hm'
   ·obtain⟨dx,hdx⟩:=w.ic.kid_live hes hx
    have hUx:=hU x dx hdx (p.kid_off w.ic hes hx) fun q'=>hxi q'.1;refine⟨hUe x hUx,vY w.ic hL hg hd hqn hc hxi (fun hk=>?_) (hlive hdx),fun key h' hm=>Mem.frame hUc hUe _ _ hUx hm⟩;exact(p.kid2_off w.ic hes hck hd hk).2 hx
   ·rw[nb]at h'
    have:es'=es.set i ((es.getD i e0).1,(es.getD i e0).2.1,(q:Int)):=by
     simp only[setE,sJ,Prod.mk.injEq,true_and]at h';exact h'.symm
    rw[this,bA _ _ _ _ _ hi'];by_cases e:j=i
    ·rw[if_pos e,e];exact⟨rfl,fun q=>absurd rfl q⟩
    ·rw[if_neg e];exact⟨rfl,fun _=>rfl⟩
def fillNext(g:fZ)(b i c:Nat):Option fZ:=
 if 2 <(look g (kd (look g b).2 (i+1))).2.length then
  match shadow g (.ent b (i+1))with
  | none=>none
  | some (k,s)=>some (moveF k b c s (look k c).1 ((look k c).2++(look k s).2.take 1) ((look k s).2.drop 1) ((look k b).2.set (i+1) (ky (look k s).2 1,((look k b).2.getD (i+1) e0).2)))
 else some (mergeF g b c (kd (look g b).2 (i+1)) (look g c).1 ((look g c).2++(look g (kd (look g b).2 (i+1))).2) (delE (look g b).2 (i+1)))
def fillLast(g:fZ)(b i c:Nat):Option fZ:=
 if 2 <(look g (kd (look g b).2 (i-1))).2.length then
  match shadow g (.ent b (i-1))with
  | none=>none
  | some (k,s)=>some (moveF k b s c (look k c).1 ((look k s).2.take ((look k s).2.length-1)) ((look k s).2.drop ((look k s).2.length-1)++(look k c).2) ((look k b).2.set i (ky (look k s).2 ((look k s).2.length-1),((look k b).2.getD i e0).2)))
 else some (mergeF g b c (kd (look g b).2 (i-1)) (look g c).1 ((look g (kd (look g b).2 (i-1))).2++(look g c).2) (delE ((look g b).2.set i (ky (look g b).2 (i-1),((look g b).2.getD i e0).2)) (i-1)))
def stepDel(f:fZ)(b:Nat)(key:ByteArray):Option (fZ×Nat):=
 match shadow f (.ent b (bK (look f b).2 key))with
 | none=>none
 | some (g,c)=>
  if 2 <(look g c).2.length then some (g,c)else
  if bK (look f b).2 key+1 <(look g b).2.length then(fillNext g b (bK (look f b).2 key) c).map fun k=>(k,c)
  else(fillLast g b (bK (look f b).2 key) c).map fun k=>(k,c)
def delAt:Nat→fZ→Nat→Nat→ByteArray→Option fZ
 | 0,f,t,b,key=>some (setN f b (1,delE (look f b).2 (cLt (look f b).2 key)))
 | h+1,f,t,b,key=>match stepDel f b key with
  | none=>none
  | some (g,c)=>if(look g b).2.length=1 then delAt h (fallF g t (aB g t) (kd (look g b).2 0)) t c key else delAt h g t c key
def bW(f:fZ)(t H:Nat)(key:ByteArray):Option fZ:=
 match shadow f (.root t)with
 | none=>none
 | some (g,r)=>delAt H g t r key
theorem kL(k:Int)(es:List E3)(n x:Nat):(kids (k,es.take n)).count x+(kids (k,es.drop n)).count x=(kids (k,es)).count x:=(rD k es n x).symm
structure Stp(f g:fZ)(t H:Nat)(P:List Nat)(b h:Nat)(lo hi:OB)(c:Nat)(key:ByteArray):Prop where
 wk:Wk g t H
 same:aW f g
 path:∃lo' hi',aN g t H (b :: P) c h lo' hi'
 up:aN g t H P b (h+1) lo hi
 spare:3≤sz g.nodes c
 mem:Mem g.nodes h c key
 rt:cD f t H→cD g t H∨(P=[]∧∃e,g.nodes b=some (2,[e])∧ch e=c)
 many:(∃es,g.nodes b=some (2,es)∧2≤es.length)∨(P=[]∧∃e,g.nodes b=some (2,[e])∧ch e=c)
theorem Wk.fillNext{g:fZ}{t H:Nat}(w:Wk g t H){P:List Nat}{b h:Nat}{lo hi:OB}(p:aN g t H P b (h+1) lo hi){es:List E3}(hes:g.nodes b=some (2,es)){i:Nat}(hi':i+1<es.length){k:Int}{ces:List E3}(hc:g.nodes (kd es i)=some (k,ces))(cc:cu g (kd es i)=1)(hcl:ces.length=2){key:ByteArray}(hm:Mem g.nodes h (kd es i) key)(h3:P≠[]→3≤es.length)
  {f':fZ} (hs:fillNext g b i (kd es i)=some f'):Stp g f' t H P b h lo hi (kd es i) key:=by
 have hck:=aO (show i<es.length by omega);have hsk:=aO hi';obtain⟨es0,q1,e2,e3,e4,e5⟩:=(p.ok w.ok).1;rw[hes]at q1;cases q1;have hOc:=(dK hc).1 (e5 i (by omega)).2;rw[cI _ hi']at hOc;obtain⟨⟨k',ses⟩,hd⟩:=w.ic.kid_live hes hsk;have hOs:=(dK hd).1 (e5 (i+1) hi').2;have hkk:k'=k:=by
  cases h with
  | zero=>have a1:=hOc.1;have a2:=hOs.1;simp only at a1 a2;omega
  | succ h=>have a1:=hOc.1;have a2:=hOs.1;simp only at a1 a2;omega
 subst hkk;have hsl:2≤ses.length:=by have:=(e5 (i+1) hi').1;unfold sz at this;rw[hd]at this;exact this
 have hs5:ses.length≤5:=hOs.node.le5;have hcs:kd es i≠kd es (i+1):=fun e=>by
  have:=dW (w.ic.only cc hes hck).2.1 (by omega) hi' e.symm;omega
 have hc0:ces≠[]:=fun e=>by rw[e]at hcl;simp at hcl
 unfold Fo.fillNext at hs;rw[aE hes]at hs;simp only at hs;rw[aE hd]at hs;simp only at hs;by_cases hsp:2<ses.length
 ·rw[if_pos hsp]at hs
  cases hsh:shadow g (.ent b (i+1))with
  | none=>rw[hsh]at hs;cases hs
  | some ks=>
   obtain⟨g2,s⟩:=ks;rw[hsh]at hs;simp only[sJ]at hs;obtain⟨w2,p2,p3,⟨es2,m1,m2,m3,m4⟩,m5,m6,m7,m8,m9⟩:=w.shadow_ent p hes hi' hsh;obtain⟨s1,s2,s3⟩:=w.shadow_sib p hes hi' hsh;obtain⟨x1,x2,x3⟩:=s2 _ hck hcs;have hkc:kd es2 i=kd es i:=by unfold kd;rw[(s3 es2 m1 i).2 (by omega)]
   have hc2:g2.nodes (kd es2 i)=some (k',ces):=by rw[hkc,x1];exact hc
   have hd2:g2.nodes (kd es2 (i+1))=some (k',ses):=by rw[m4,m5];exact hd
   obtain⟨es3,q1,_,_,_,e5'⟩:=(p2.ok w2.ok).1;rw[m1]at q1;cases q1;have hOc2:=(dK hc2).1 (e5' i (by omega)).2;rw[cI _ (by omega)]at hOc2;have hOs2:=(dK hd2).1 (e5' (i+1) (by omega)).2;have hd2':g2.nodes s=some (k',ses):=by rw[←m4];exact hd2
   have hc2':g2.nodes (kd es i)=some (k',ces):=by rw[←hkc];exact hc2
   rw[aE hc2',aE hd2',aE m1]at hs;simp only at hs;have mv:=w2.move p2 m1 (a:=i) (by omega) hc2 hd2 (by rw[hkc,x2];exact cc) (by rw[m4];exact m6) (les':=ces++ses.take 1) (res':=ses.drop 1) (mid:=ky ses 1)
    (hOc2.join (hOs2.take (by omega) (by omega)) (eD _) hc0 (nY (by omega) (by omega)) (by rw[len_take' (by omega)];omega))
    (hOs2.drop (by omega)) (by rw[lP,len_take' (by omega)];omega) (by rw[List.length_drop];omega)
    (fun x=>by rw[oC,List.count_append];have:=kL k' ses 1 x;omega)
    (fun e he=>by
     rcases he with he | he
     ·rcases List.mem_append.1 he with he | he
      ·exact .inl he
      ·exact .inr (List.mem_of_mem_take he)
     ·exact .inr (List.mem_of_mem_drop he))
   rw[m4,hkc]at mv;simp only at mv;rw[hs]at mv;obtain⟨v1,v2,v3,v4,v5,v6,v7,v8,v9⟩:=mv;have hlen2:(es2.set (i+1) (ky ses 1,(es2.getD (i+1) e0).2)).length=es.length:=by simp[m2]
   refine⟨v1,m9.trans (hs▸aW.moveF ..),⟨_,_,v5⟩,v4,?_,?_,fun hr=>.inl (v2 (m8 hr)),.inl ⟨_,v3,by rw[hlen2];omega⟩⟩
   ·unfold sz;rw[v7];simp only[lP,List.length_take];omega
   ·rw[bN v7]
    have hm2:=x3 key h hm;rw[bN hc2']at hm2;exact hm2.more (fun e he=>List.mem_append_left _ he) fun c hc' h' hm'=>v9 key c (.inl hc') h' hm'
 ·rw[if_neg hsp,aE hc]at hs
  simp only[sJ]at hs;have hpos:∀e∈delE es (i+1),0≤e.2.2:=fun e he=>by
   obtain⟨j,hj,rfl⟩:=dP (oM he);exact w.ic.child_pos hes hj
  have hgd:=fun j=>gZ es (i+1) e0 (by omega) j;have mg:=w.merge p hes (a:=i) hi' (es':=delE es (i+1)) (.inl ⟨rfl,rfl,rfl,rfl⟩) hc hd cc (by omega) (by rw[bI _ _ hi'];omega)
   (fun j=>by
    unfold ky;rw[hgd];by_cases q:j≤i
    ·rw[if_pos (by omega),if_pos q]
    ·rw[if_neg (by omega),if_neg q])
   (fun j=>by
    unfold kd;rw[hgd];by_cases q:j<i
    ·rw[if_pos (by omega),if_pos q]
    ·rw[if_neg q]
     by_cases q':j=i
     ·rw[if_pos (by omega),if_pos q',q']
     ·rw[if_neg (by omega),if_neg q'])
   (fun j hj=>by
    rw[bI _ _ hi']at hj;rw[hgd];split
    ·exact e4 j (by omega)
    ·exact e4 _ (by omega))
   (fun x=>uX es (i+1) x hi') hpos h3
  simp only at mg
  rw[hs]at mg;obtain⟨v1,v2,v3,v4,v5,v6,v7⟩:=mg;have hlast:(∃es',f'.nodes b=some (2,es')∧2≤es'.length)∨(P=[]∧∃e,f'.nodes b=some (2,[e])∧ch e=kd es i):=by
   by_cases q:3≤es.length
   ·exact .inl ⟨_,v3,by rw[bI _ _ hi'];omega⟩
   ·refine .inr ⟨by by_cases hP:P=[];exact hP;exact absurd (h3 hP) q,es.getD 0 e0,?_,?_⟩
    ·rw[v3]
     have hl:es.length=2:=by omega
     obtain rfl:i=0:=by omega
     match es,hl with
     | [x,y],_=>rfl
    ·obtain rfl:i=0:=by omega
     rfl
  refine⟨v1,hs▸aW.mergeF ..,⟨_,_,v5⟩,v4,?_,?_,fun hr=>?_,hlast⟩
  ·unfold sz;rw[v6];simp only[lP];omega
  ·rw[bN v6]
   rw[bN hc]at hm;exact hm.more (fun e he=>List.mem_append_left _ he) fun c hc' h' hm'=>v7 key c hc' h' hm'
  ·by_cases q:3≤es.length
   ·exact .inl (v2 q hr)
   ·rcases hlast with⟨es',n1,n2⟩ | q'
    ·rw[v3]at n1;cases n1;rw[bI _ _ hi']at n2;omega
    ·exact .inr q'
