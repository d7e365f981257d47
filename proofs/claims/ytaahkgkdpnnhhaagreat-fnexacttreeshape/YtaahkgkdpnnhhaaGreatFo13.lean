import Derived.Test.YtaahkgkdpnnhhaaGreatFo8
set_option linter.all false
namespace Go.Proofs.YtaahkgkdpnnhhaaGreat.Fo
variable{a key val:ByteArray}{k:Int}{es:List E3}{P:List Nat}{H b c h i j m q t:Nat}{nodes nodes':Nat→Option Nd}{d:Nd}{hi lo:OB}{f g:fZ}
theorem aCU(hi:i≤es.length)(e:E3)(j:Nat):ky (insE es i e) j=if j<i then ky es j else if j=i then e.1 else ky es (j-1):=by
 unfold ky;rw[jJ _ _ _ _ hi];split
 ·rfl
 ·split<;>rfl
theorem aJL(hi:i≤es.length)(e:E3)(j:Nat):kd (insE es i e) j=if j<i then kd es j else if j=i then ch e else kd es (j-1):=by
 unfold kd;rw[jJ _ _ _ _ hi];split
 ·rfl
 ·split<;>rfl
theorem eH(h:j<m):ky (es.take m) j=ky es j:=by unfold ky;rw[fR _ _ _ h]
theorem aCS(h:j<m):kd (es.take m) j=kd es j:=by unfold kd;rw[fR _ _ _ h]
theorem gC:ky (es.drop m) j=ky es (m+j):=by unfold ky;rw[eU]
theorem aCR:kd (es.drop m) j=kd es (m+j):=by unfold kd;rw[eU]
theorem len_take'(h:m≤es.length):(es.take m).length=m:=by rw[List.length_take];omega
theorem cL(hi:OB)(h:i+1<es.length):nxt es i hi=some (ky es (i+1)):=by unfold nxt;rw[if_pos h]
theorem eN(hi:OB)(h:¬i+1<es.length):nxt es i hi=hi:=by unfold nxt;rw[if_neg h]
theorem rV{b:ByteArray}(h:kl a b=true)(hb:hiR hi b):hiR hi a:=by
 cases hi with
 | none=>trivial
 | some u=>exact kH h hb
theorem aHD{b:ByteArray}(h:kl a b=true)(ha:loR lo a):loR lo b:=by
 cases lo with
 | none=>trivial
 | some l=>exact gL ha (fE h)
theorem tL(h:Srt es)(m:Nat)(hm:m≤es.length):Srt (es.take m):=fun i j im hj=>by
 rw[len_take' hm]at hj;rw[eH (by omega),eH hj];exact h i j im (by omega)
theorem zT(h:Srt es)(m:Nat):Srt (es.drop m):=fun i j im hj=>by
 rw[List.length_drop]at hj;rw[gC,gC];exact h _ _ (by omega) (by omega)
theorem eB.strict{l:ByteArray}(h:eB es (some l) hi)(h0:0<m)(hm:m<es.length):kl l (ky es m)=true:=
 kU (h.lo 0 (by omega)) (h.srt 0 m h0 hm)
theorem Ok.cutLow(hd:nodes b=some (k,es))(hk:Ok nodes h b lo hi)(hm:0<m)(gy:m<es.length)(hq:nodes' q=some (k,es.take m))
  (hf:∀c∈kids (k,es),∀h' lo' am,Ok nodes h' c lo' am→Ok nodes' h' c lo' am∧sz nodes' c=sz nodes c):Ok nodes' h q lo (some (ky es m)):=by
 have nr:∀{es:List E3},m<es.length→eB es lo hi→eB (es.take m) lo (some (ky es m)):=fun {es} gy e=>by
  refine⟨tL e.srt m (by omega),fun j hj=>?_,fun j hj=>?_,?_⟩
  ·rw[len_take' (by omega)]at hj;rw[eH hj];exact e.lo j (by omega)
  ·rw[len_take' (by omega)]at hj;rw[eH hj];exact e.srt j m hj gy
  ·rw[len_take' (by omega)];have:=e.le5;omega
 cases h with
 | zero=>
  obtain⟨es',e1,e2,e3⟩:=hk;rw[hd]at e1;cases e1;refine⟨_,hq,nr gy e2,fun j hj=>?_⟩;rw[len_take' (by omega)]at hj;rw[fR _ _ _ hj];exact e3 j (by omega)
 | succ h=>
  obtain⟨es',e1,e2,e3,e4,e5⟩:=hk;rw[hd]at e1;cases e1;refine⟨_,hq,nr gy e2,oK gy hm,fun j hj=>?_,fun j hj=>?_⟩
  ·rw[len_take' (by omega)]at hj
   rw[fR _ _ _ hj];exact e4 j (by omega)
  ·rw[len_take' (by omega)]at hj
   obtain⟨g1,g2⟩:=hf _ (aP (show j<es.length by omega)) _ _ _ (e5 j (by omega)).2;rw[aCS hj,eH hj];refine⟨by rw[g2];exact(e5 j (by omega)).1,?_⟩;have:nxt (es.take m) j (some (ky es m))=nxt es j hi:=by
    rw[cL (es:=es) hi (by omega)];by_cases e:j+1<m
    ·rw[cL _ (by rw[len_take' (by omega)];exact e),eH e]
    ·rw[eN _ (by rw[len_take' (by omega)];exact e),show j+1=m from by omega]
   rw[this];exact g1
theorem Ok.cutHigh(hd:nodes b=some (k,es))(hk:Ok nodes h b lo hi)(gy:m<es.length)(hq:nodes' q=some (k,es.drop m))
  (hf:∀c∈kids (k,es),∀h' lo' am,Ok nodes h' c lo' am→Ok nodes' h' c lo' am∧sz nodes' c=sz nodes c):Ok nodes' h q (some (ky es m)) hi:=by
 have nr:∀{es:List E3},m<es.length→eB es lo hi→eB (es.drop m) (some (ky es m)) hi:=fun {es} gy e=>by
  refine⟨zT e.srt m,fun j hj=>?_,fun j hj=>?_,?_⟩
  ·rw[List.length_drop]at hj;rw[gC]
   by_cases e0:j=0
   ·subst e0;exact eD _
   ·exact fE (e.srt m (m+j) (by omega) (by omega))
  ·rw[List.length_drop]at hj;rw[gC];exact e.hi _ (by omega)
  ·rw[List.length_drop];have:=e.le5;omega
 cases h with
 | zero=>
  obtain⟨es',e1,e2,e3⟩:=hk;rw[hd]at e1;cases e1;refine⟨_,hq,nr gy e2,fun j hj=>?_⟩;rw[List.length_drop]at hj;rw[eU];exact e3 _ (by omega)
 | succ h=>
  obtain⟨es',e1,e2,e3,e4,e5⟩:=hk;rw[hd]at e1;cases e1;refine⟨_,hq,nr gy e2,nB gy,fun j hj=>?_,fun j hj=>?_⟩
  ·rw[List.length_drop]at hj
   rw[eU];exact e4 _ (by omega)
  ·rw[List.length_drop]at hj
   obtain⟨g1,g2⟩:=hf _ (aP (show m+j<es.length by omega)) _ _ _ (e5 (m+j) (by omega)).2;rw[aCR,gC];refine⟨by rw[g2];exact(e5 _ (by omega)).1,?_⟩;have:nxt (es.drop m) j hi=nxt es (m+j) hi:=by
    unfold nxt;rw[List.length_drop,gC];by_cases e:m+j+1<es.length
    ·rw[if_pos (by omega),if_pos e,show m+(j+1)=m+j+1 from by omega]
    ·rw[if_neg (by omega),if_neg e]
   rw[this];exact g1
theorem Wk.split(w:Wk f t H)(p:aN f t H P b (h+1) lo hi)(af:f.nodes b=some (2,es))(h5:es.length<5)(am:i<es.length){ces:List E3}(hd:f.nodes (kd es i)=some (k,ces))(h1:cu f (kd es i)=1)
  {m q:Nat} (hm:2≤m) (gy:m+2≤ces.length) (gp:2≤q) (ml:q<f.cur.length) (hc:cu f q=0):
  let f':=splitF f b es i (kd es i) k ces m q (ky ces m)
  Wk f' t H∧aN f' t H P b (h+1) lo hi∧aN f' t H (b :: P) (kd es i) h (some (ky es i)) (some (ky ces m))∧aN f' t H (b :: P) q h (some (ky ces m)) (nxt es i hi)∧
   f'.nodes b=some (2,insE es (i+1) (ky ces m,.empty,(q:Int)))∧f'.nodes (kd es i)=some (k,ces.take m)∧f'.nodes q=some (k,ces.drop m)∧(cD f t H→cD f' t H):=by
 intro f';obtain⟨I1,I2⟩:=w.ic.split (key:=ky ces m) (m:=m) af am (rfl:kd es i=_) hd (by omega) (by omega) gp ml hc;have de:f.nodes q=none:=(w.ic.dom.dead q).2 hc;have fh:=aP am;have pp:kd es i≠b:=fun e=>w.ic.not_self af (by rw[←e];exact fh);have AF:kd es i≠q:=fun e=>by rw[e,de]at hd;cases hd
 have mi:b≠q:=fun e=>by rw[e,de]at af;cases af
 have AV:=w.ic.not_self hd;obtain⟨es',e1,e2,e3,e4,e5⟩:=(p.ok w.ok).1;rw[af]at e1;cases e1;have nb:f'.nodes b=some (2,insE es (i+1) (ky ces m,.empty,(q:Int))):=by rw[I2,aD]
 have nq:f'.nodes q=some (k,ces.drop m):=by rw[I2,aC _ _ (Ne.symm mi),aD]
 have nc:f'.nodes (kd es i)=some (k,ces.take m):=by rw[I2,aC _ _ pp,aC _ _ AF,aD]
 have nx:∀x,x≠b→x≠q→x≠kd es i→f'.nodes x=f.nodes x:=fun x h1 h2 h3=>by rw[I2,aC _ _ h1,aC _ _ h2,aC _ _ h3]
 have ed:∀{x:Nat} {d':Nd},f.nodes x=some d'→x≠q:=fun hx e=>by rw[e,de]at hx;cases hx
 have Ge:∀x,x=kd es i→cu f x=1∧x∈kids (2,es):=fun x q1=>by rw[q1];exact⟨h1,fh⟩
 have Gi:∀x d,f.nodes x=some d→x≠b→¬x=kd es i→f'.nodes x=some d:=fun x d hx ut Ad=>by rw[nx x ut (ed hx) Ad];exact hx
 have fr:=fun {x:Nat} {d':Nd} (hx:f.nodes x=some d')=>p.fr w.ic w.tl af (nodes':=f'.nodes) (fun x=>x=kd es i) Ge Gi hx;have JM:∀x,cu f' x=if q=x then 1 else cu f x:=fun x=>dT (f:=setN f (kd es i) (k,ces.take m)) (k,ces.drop m) ml x;have hP:∀y∈b :: P,cu f' y=cu f y:=fun y hy=>by
  obtain⟨dy,JX⟩:=p.live w.ic w.tl y hy;rw[JM,if_neg (Ne.symm (ed JX))]
 have ui:∀c∈kids (k,ces),∀h' lo' am,Ok f.nodes h' c lo' am→Ok f'.nodes h' c lo' am∧sz f'.nodes c=sz f.nodes c:=fun c bj h' lo' am hk=>by
  obtain⟨dc,jd⟩:=w.ic.kid_live hd bj;exact fr jd (p.kid2_off w.ic af fh hd bj).1 (fun q'=>AV (q'▸bj)) hk
 have CJ:∀y∈P,f'.nodes y=f.nodes y:=fun y hy=>by
  obtain⟨dy,JX⟩:=p.live w.ic w.tl y (List.mem_cons_of_mem _ hy);refine nx y (fun e=>?_) (ed JX) fun q'=>?_
  ·obtain⟨ur,hh⟩:=w.ic.ht
   have:=p.high hh y hy;rw[e]at this;omega
  ·exact p.kid_off w.ic af fh (q'▸List.mem_cons_of_mem _ hy)
 have p':aN f' t H P b (h+1) lo hi:=p.mono rfl hP CJ;have EN:eB ces (some (ky es i)) (nxt es i hi):=by
  have:=(e5 i am).2
  cases h with
  | zero=>obtain⟨_,a1,a2,_⟩:=this;rw[hd]at a1;cases a1;exact a2
  | succ h=>obtain⟨_,a1,a2,_⟩:=this;rw[hd]at a1;cases a1;exact a2
 have d8:kl (ky es i) (ky ces m)=true:=EN.strict (by omega) (by omega);have Cz:hiR (nxt es i hi) (ky ces m):=EN.hi m (by omega);have EW:i+1<es.length→kl (ky ces m) (ky es (i+1))=true:=fun ai=>by rw[cL _ ai]at Cz;exact Cz
 have okc:Ok f'.nodes h (kd es i) (some (ky es i)) (some (ky ces m)):=Ok.cutLow hd (e5 i am).2 (by omega) (by omega) nc ui;have okq:Ok f'.nodes h q (some (ky ces m)) (nxt es i hi):=Ok.cutHigh hd (e5 i am).2 (by omega) nq ui;have gj:=aCU (es:=es) (i:=i+1) (by omega) (ky ces m,.empty,(q:Int));have iw:=aJL (es:=es) (i:=i+1) (by omega) (ky ces m,.empty,(q:Int));have QU:ch (ky ces m,.empty,(q:Int))=q:=by simp[ch]
 rw[QU]at iw;have ah:=iO es (i+1) (ky ces m,.empty,(q:Int));have nxs:∀j,j<i→nxt (insE es (i+1) (ky ces m,.empty,(q:Int))) j hi=nxt es j hi:=fun j hj=>by
  rw[cL _ (by rw[ah];omega),cL _ (by omega),gj,if_pos (by omega)]
 have nxi:nxt (insE es (i+1) (ky ces m,.empty,(q:Int))) i hi=some (ky ces m):=by
  rw[cL _ (by rw[ah];omega),gj,if_neg (by omega),if_pos rfl]
 have nxq:∀j,i<j→nxt (insE es (i+1) (ky ces m,.empty,(q:Int))) j hi=nxt es (j-1) hi:=fun j hj=>by
  by_cases e:j<es.length
  ·rw[cL _ (by rw[ah];omega),cL _ (by omega),gj,if_neg (by omega),if_neg (by omega),show j+1-1=j-1+1 from by omega]
  ·rw[eN _ (by rw[ah];omega),eN _ (by omega)]
 have XI:sz f'.nodes (kd es i)=m:=by unfold sz;rw[nc];exact len_take' (by omega)
 have Rr:sz f'.nodes q=ces.length-m:=by unfold sz;rw[nq];exact List.length_drop
 refine⟨w.step p I1 rfl af (fun x=>x=kd es i) Ge Gi ?_ ?_,p',?_,?_,nb,nc,nq,fun hr=>p.rt rfl CJ (fun h0 hP=>?_) hr⟩
 ·refine⟨_,nb,⟨?_,?_,?_,by rw[ah];omega⟩,by intro e;rw[e]at ah;simp at ah,?_,?_⟩
  ·intro a c xd bj
   rw[ah]at bj;rw[gj,gj];by_cases a1:a<i+1
   ·rw[if_pos a1]
    by_cases c1:c<i+1
    ·rw[if_pos c1];exact e2.srt a c xd (by omega)
    ·rw[if_neg c1]
     have Vl:kl (ky es a) (ky ces m)=true:=by
      by_cases e:a=i
      ·rw[e];exact d8
      ·exact kH (e2.srt a i (by omega) am) d8
     by_cases c2:c=i+1
     ·rw[if_pos c2];exact Vl
     ·rw[if_neg c2];exact e2.srt a (c-1) (by omega) (by omega)
   ·rw[if_neg a1,if_neg (show ¬c<i+1 by omega),if_neg (show ¬c=i+1 by omega)]
    by_cases a2:a=i+1
    ·rw[if_pos a2]
     have:=EW (by omega)
     by_cases e:c-1=i+1
     ·rw[e];exact this
     ·exact kH this (e2.srt (i+1) (c-1) (by omega) (by omega))
    ·rw[if_neg a2];exact e2.srt (a-1) (c-1) (by omega) (by omega)
  ·intro j hj
   rw[ah]at hj;rw[gj];by_cases a1:j<i+1
   ·rw[if_pos a1];exact e2.lo j (by omega)
   ·rw[if_neg a1]
    by_cases a2:j=i+1
    ·rw[if_pos a2];exact aHD d8 (e2.lo i am)
    ·rw[if_neg a2];exact e2.lo _ (by omega)
  ·intro j hj
   rw[ah]at hj;rw[gj];by_cases a1:j<i+1
   ·rw[if_pos a1];exact e2.hi j (by omega)
   ·rw[if_neg a1]
    by_cases a2:j=i+1
    ·rw[if_pos a2]
     by_cases e:i+1<es.length
     ·exact rV (EW e) (e2.hi _ e)
     ·rw[eN _ e]at Cz;exact Cz
    ·rw[if_neg a2];exact e2.hi _ (by omega)
  ·intro j hj
   rw[ah]at hj;rw[jJ _ _ _ _ (by omega)];split
   ·exact e4 j (by omega)
   ·split
    ·rfl
    ·exact e4 _ (by omega)
  ·intro j hj
   rw[ah]at hj;have other:∀j',j'<es.length→j'≠i→2≤sz f'.nodes (kd es j')∧Ok f'.nodes h (kd es j') (some (ky es j')) (nxt es j' hi):=fun j' xw av=>by
    obtain⟨dj,JT⟩:=w.ic.kid_live af (aP xw);obtain⟨g1,g2⟩:=fr JT (p.kid_off w.ic af (aP xw)) (fun q'=>av (dY (w.ic.only h1 af fh).2.1 am xw q')) (e5 j' xw).2;exact⟨by rw[g2];exact(e5 j' xw).1,g1⟩
   rw[iw,gj];by_cases a1:j<i+1
   ·rw[if_pos a1,if_pos a1]
    by_cases e:j=i
    ·subst e;rw[nxi];exact⟨by rw[XI];exact hm,okc⟩
    ·rw[nxs j (by omega)];exact other j (by omega) e
   ·rw[if_neg a1,if_neg a1]
    by_cases a2:j=i+1
    ·rw[if_pos a2,if_pos a2,a2,nxq (i+1) (by omega)]
     exact⟨by rw[Rr];omega,okq⟩
    ·rw[if_neg a2,if_neg a2,nxq j (by omega)];exact other _ (by omega) (by omega)
 ·intro Ps
  unfold sz;rw[nb];simp only[ah];have:=(p.ok w.ok).2 Ps;unfold sz at this;rw[af]at this;simp only at this;omega
 ·have:=aN.down p' nb (i:=i) (by rw[ah];omega) (by rw[iw,if_pos (by omega),JM,if_neg (Ne.symm AF)];exact h1)
  rw[iw,if_pos (by omega),gj,if_pos (by omega),nxi]at this;exact this
 ·have:=aN.down p' nb (i:=i+1) (by rw[ah];omega) (by rw[iw,if_neg (by omega),if_pos rfl,JM,if_pos rfl])
  rw[iw,if_neg (by omega),if_pos rfl,gj,if_neg (by omega),if_pos rfl,nxq _ (by omega)]at this;exact this
 ·rcases hr with hr | hr
  ·omega
  ·rcases p.top with⟨_,q',_⟩ | ⟨q',_⟩
   ·unfold sz at hr ⊢;rw[nb];rw[←q',af]at hr;simp only[ah]at *;omega
   ·rw[hP]at q';cases q'
theorem Ok.low(hd:nodes b=some (k,es))(hk:Ok nodes h b lo hi):Ok nodes h b (some (ky es 0)) hi:=by
 have nr:∀{es:List E3},eB es lo hi→eB es (some (ky es 0)) hi:=fun {es} e=>by
  refine⟨e.srt,fun j hj=>?_,e.hi,e.le5⟩;cases j with
  | zero=>exact eD _
  | succ j=>exact fE (e.srt 0 (j+1) (by omega) hj)
 cases h with
 | zero=>obtain⟨es',e1,e2,e3⟩:=hk;rw[hd]at e1;cases e1;exact⟨_,hd,nr e2,e3⟩
 | succ h=>obtain⟨es',e1,e2,e3⟩:=hk;rw[hd]at e1;cases e1;exact⟨_,hd,nr e2,e3⟩
theorem Wk.grow(w:Wk f t H)(h1:cu f (aB f t)=1)(hd:f.nodes (aB f t)=some (k,es)){top:Nat}(hm:2≤m)(gy:m+2≤es.length)
  (gp:2≤q) (ml:q<f.cur.length) (hq:cu f q=0) (Aa:2≤top) (DR:top<f.cur.length) (qw:cu f top=0) (su:top≠q):
  let f':=growF f t (aB f t) k es m q top (ky es 0) (ky es m)
  Wk f' t (H+1)∧aN f' t (H+1) [] top (H+1) none none∧aB f' t=top∧cD f' t (H+1)∧f'.nodes top=some (2,[(ky es 0,.empty,(aB f t:Int)),(ky es m,.empty,(q:Int))]):=by
 intro f';obtain⟨I1,I2⟩:=w.ic.grow (t:=t) (r:=aB f t) (m:=m) (ky es 0) (ky es m) w.tl rfl hd (by omega) (by omega) gp ml hq Aa DR qw su;have de:f.nodes q=none:=(w.ic.dom.dead q).2 hq;have FG:f.nodes top=none:=(w.ic.dom.dead top).2 qw;have KJ:aB f t≠q:=fun e=>by rw[e,de]at hd;cases hd
 have er:aB f t≠top:=fun e=>by rw[e,FG]at hd;cases hd
 have ho:=w.ic.onlyRoot (aO w.tl) h1;have hr:aB f' t=top:=by
  show((f.roots.set t _).getD t (0,0)).2.toNat=top
  simp[gD,w.tl]
 have FD:∀u,u≠t→aB f' u=aB f u:=fun u hu=>by
  show((f.roots.set t _).getD u (0,0)).2.toNat=_
  unfold aB;simp only[gD,List.getElem?_set,if_neg (Ne.symm hu)]
 have ntop:f'.nodes top=some (2,[(ky es 0,.empty,(aB f t:Int)),(ky es m,.empty,(q:Int))]):=by rw[I2,aD]
 have nq:f'.nodes q=some (k,es.drop m):=by rw[I2,aC _ _ (Ne.symm su),aD]
 have nr:f'.nodes (aB f t)=some (k,es.take m):=by rw[I2,aC _ _ er,aC _ _ KJ];exact aD _ _ _
 let U:Nat→Prop:=fun x=>(∃d,f.nodes x=some d)∧x≠aB f t
 have lj:∀x d,U x→f.nodes x=some d→∀c∈kids d,U c:=fun x d' _ hx c bj=>
  ⟨w.ic.kid_live hx bj,fun e=>ho.2 x d' hx (by have:c=(f.roots.getD t (0,0)).2.toNat:=e;rw[←this];exact bj)⟩
 have gd:∀x,U x→f'.nodes x=f.nodes x:=fun x ⟨⟨d',hx⟩,h1⟩=>by
  have Bz:x≠q:=fun e=>by rw[e,de]at hx;cases hx
  have R2:x≠top:=fun e=>by rw[e,FG]at hx;cases hx
  rw[I2,aC _ _ R2,aC _ _ Bz];exact aC _ _ h1
 have fr:=Ok.frame lj gd;have ui:∀c∈kids (k,es),∀h' lo' am,Ok f.nodes h' c lo' am→Ok f'.nodes h' c lo' am∧sz f'.nodes c=sz f.nodes c:=fun c bj h' lo' am hk=>by
  have Ao:U c:=⟨w.ic.kid_live hd bj,fun e=>w.ic.not_self hd (e▸bj)⟩;exact⟨fr _ _ _ _ Ao hk,by unfold sz;rw[gd c Ao]⟩
 have okr:Ok f'.nodes H (aB f t) (some (ky es 0)) (some (ky es m)):=by
  have:=Ok.low nr (Ok.cutLow hd w.ok (by omega) (by omega) nr ui)
  rw[eH (by omega)]at this;exact this
 have okq:Ok f'.nodes H q (some (ky es m)) none:=Ok.cutHigh hd w.ok (by omega) nq ui;have hs:Srt es:=by
  obtain⟨d,d1,_,_,d4,_⟩:=w.ok.sz_pos;rw[hd]at d1;cases d1;exact d4
 have XN:sz f'.nodes (aB f t)=m:=by unfold sz;rw[nr];exact len_take' (by omega)
 have Rr:sz f'.nodes q=es.length-m:=by unfold sz;rw[nq];exact List.length_drop
 refine⟨⟨I1,by show t <(f.roots.set t _).length;simpa using w.tl,?_,fun u hu yj=>?_⟩,?_,hr,?_,ntop⟩
 ·rw[hr]
  refine⟨_,ntop,⟨?_,fun _ _=>trivial,fun _ _=>trivial,by simp⟩,by simp,?_,?_⟩
  ·intro i j im hj
   simp only[List.length_cons,List.length_nil]at hj;obtain rfl:i=0:=by omega
   obtain rfl:j=1:=by omega
   exact hs 0 m (by omega) (by omega)
  ·intro i hi
   simp only[List.length_cons,List.length_nil]at hi;obtain rfl | rfl:i=0∨i=1:=by omega
   ·rfl
   ·rfl
  ·intro i hi
   simp only[List.length_cons,List.length_nil]at hi;obtain rfl | rfl:i=0∨i=1:=by omega
   ·have e1:kd [(ky es 0,.empty,(aB f t:Int)),(ky es m,.empty,(q:Int))] 0=aB f t:=by simp[kd,ch]
    rw[e1];exact⟨by rw[XN];exact hm,okr⟩
   ·have e1:kd [(ky es 0,.empty,(aB f t:Int)),(ky es m,.empty,(q:Int))] 1=q:=by simp[kd,ch]
    rw[e1];exact⟨by rw[Rr];omega,okq⟩
 ·have hu:u<f.roots.length:=by have:u <(f.roots.set t _).length:=hu;simpa using this
  obtain⟨h,g1,g2⟩:=w.oth u hu yj;have Dx:U (aB f u):=⟨w.ic.root_live (aO hu),mP w.ic w.tl hu yj h1⟩;refine⟨h,by rw[FD u yj];exact fr _ _ _ _ Dx g1,?_⟩;rcases g2 with g2 | g2
  ·exact .inl g2
  ·refine .inr ?_
   unfold sz at g2 ⊢;rw[FD u yj,gd _ Dx];exact g2
 ·have:=aN.here (f:=f') (t:=t) (H:=H+1) (by
   rw[hr];exact(dT (f:=takeAt (setN f (aB f t) (k,es.take m)) q (k,es.drop m)) (2,[(ky es 0,.empty,(aB f t:Int)),(ky es m,.empty,(q:Int))]) (by simpa [takeAt,setN] using DR) top).trans (if_pos rfl))
  rw[hr]at this;exact this
 ·refine .inr ?_
  rw[hr];unfold sz;rw[ntop];simp
def fD(es:List E3)(key:ByteArray):Bool:=decide (cLt es key<es.length) && (ky es (cLt es key)).toList == key.toList
theorem dJ(es:List E3)(key:ByteArray):fD es key=true↔cLt es key<es.length∧ky es (cLt es key)=key:=by
 unfold fD;rw[Bool.and_eq_true,decide_eq_true_eq,beq_iff_eq];exact⟨fun⟨a,b⟩=>⟨a,gR b⟩,fun⟨a,b⟩=>⟨a,by rw[b]⟩⟩
def putE(es:List E3)(key val:ByteArray):List E3:=
 if fD es key=true then es.set (cLt es key) ((es.getD (cLt es key) e0).1,val,(es.getD (cLt es key) e0).2.2)else insE es (cLt es key) (key,val,0)
theorem zJ(es:List E3)(key val:ByteArray):(putE es key val).length=if fD es key=true then es.length else es.length+1:=by
 unfold putE;split
 ·simp
 ·exact iO _ _ _
theorem aEH(h:eB es lo hi)(h5:es.length<5)(key val:ByteArray)(hl:loR lo key)(hh:hiR hi key):eB (putE es key val) lo hi:=by
 have au:=kM es key;unfold putE;split
 ·rename_i hk
  obtain⟨k1,k2⟩:=(dJ es key).1 hk;have gj:∀j,ky (es.set (cLt es key) ((es.getD (cLt es key) e0).1,val,(es.getD (cLt es key) e0).2.2)) j=ky es j:=fun j=>by
   unfold ky;rw[bA _ _ _ _ _ k1];by_cases e:j=cLt es key
   ·rw[if_pos e,e]
   ·rw[if_neg e]
  refine⟨fun i j im hj=>?_,fun j hj=>?_,fun j hj=>?_,by simpa using h.le5⟩
  ·rw[gj,gj];exact h.srt i j im (by simpa using hj)
  ·rw[gj];exact h.lo j (by simpa using hj)
  ·rw[gj];exact h.hi j (by simpa using hj)
 ·rename_i hk
  have gj:=aCU (es:=es) au (key,val,0);have lt1:∀j,j<cLt es key→kl (ky es j) key=true:=fun j hj=>(gW h.srt key (by omega)).2 hj;have gt1:∀j,cLt es key≤j→j<es.length→kl key (ky es j)=true:=fun j hj xx=>by
   have n1:∀j,cLt es key≤j→j<es.length→kl (ky es j) key=false:=fun j hj xx=>by
    cases e:kl (ky es j) key with
    | false=>rfl
    | true=>have:=(gW h.srt key xx).1 e;omega
   have n2:kl key (ky es (cLt es key))=true:=by
    rcases kW (n1 (cLt es key) (nR _) (by omega))with q | q
    ·exact absurd ((dJ es key).2 ⟨by omega,q⟩) hk
    ·exact q
   by_cases e:j=cLt es key
   ·rw[e];exact n2
   ·exact kH n2 (h.srt _ _ (by omega) xx)
  refine⟨fun i j im hj=>?_,fun j hj=>?_,fun j hj=>?_,by rw[iO];omega⟩
  ·rw[iO]at hj
   rw[gj,gj];by_cases a1:i<cLt es key
   ·rw[if_pos a1]
    by_cases c1:j<cLt es key
    ·rw[if_pos c1];exact h.srt i j im (by omega)
    ·rw[if_neg c1]
     by_cases c2:j=cLt es key
     ·rw[if_pos c2];exact lt1 i a1
     ·rw[if_neg c2];exact h.srt i (j-1) (by omega) (by omega)
   ·rw[if_neg a1,if_neg (show ¬j<cLt es key by omega),if_neg (show ¬j=cLt es key by omega)]
    by_cases a2:i=cLt es key
    ·rw[if_pos a2];exact gt1 _ (by omega) (by omega)
    ·rw[if_neg a2];exact h.srt _ _ (by omega) (by omega)
  ·rw[iO]at hj
   rw[gj];split
   ·exact h.lo j (by omega)
   ·split
    ·exact hl
    ·exact h.lo _ (by omega)
  ·rw[iO]at hj
   rw[gj];split
   ·exact h.hi j (by omega)
   ·split
    ·exact hh
    ·exact h.hi _ (by omega)
theorem Wk.leaf(w:Wk f t H)(p:aN f t H P b 0 lo hi){es':List E3}(af:f.nodes b=some (1,es))(hn:eB es' lo hi)(hc:∀i,i<es'.length→(es'.getD i e0).2.2=0)(hz:P≠[]→2≤es'.length):
  Wk (setN f b (1,es')) t H∧(cD f t H→cD (setN f b (1,es')) t H):=by
 have hI:IC (setN f b (1,es')):=w.ic.keys af (by simp[aGX]) fun q=>by simp at q
 have y9:(setN f b (1,es')).nodes b=some (1,es'):=aD _ _ _;have ul:∀x,x≠b→(setN f b (1,es')).nodes x=f.nodes x:=fun x hx=>aC _ _ hx;refine⟨w.step p hI rfl af (fun _=>False) (fun _ q=>q.elim) (fun x d hx ut _=>by rw[ul x ut];exact hx) ⟨es',y9,hn,hc⟩ (fun hP=>by unfold sz;rw[y9];exact hz hP),fun hr=>?_⟩;refine p.rt rfl (fun y hy=>ul y fun e=>?_) (fun h0 hP=>?_) hr
 ·obtain⟨ur,hh⟩:=w.ic.ht
  have:=p.high hh y hy;rw[e]at this;omega
 ·rcases p.top with⟨_,_,q⟩ | ⟨q,_⟩
  ·omega
  ·rw[hP]at q;cases q
def aF(f:fZ):Nat:=((List.range f.cur.length).find? fun b=>decide (2≤b) && (cu f b == 0) && (co f b == 0)).getD 0
theorem aR(h:aF f≠0):2≤aF f∧aF f<f.cur.length∧cu f (aF f)=0∧co f (aF f)=0:=by
 unfold aF at h ⊢;cases e:(List.range f.cur.length).find? fun b=>decide (2≤b) && (cu f b == 0) && (co f b == 0)with
 | none=>rw[e]at h;exact absurd rfl h
 | some q=>
  have h1:=List.find?_some e;have h2:=List.mem_of_find?_eq_some e;simp only[Bool.and_eq_true,decide_eq_true_eq,beq_iff_eq]at h1;simp only[Option.getD_some];exact⟨h1.1.1,by simpa using h2,h1.1.2,h1.2⟩
structure aW(f f':fZ):Prop where
 next:f'.next=f.next
 gen:f'.gen=f.gen
 com:f'.com=f.com
 table:f'.table=f.table
 cur:f'.cur.length=f.cur.length
 ids:f'.roots.map Prod.fst=f.roots.map Prod.fst
theorem aW.refl(f:fZ):aW f f:=⟨rfl,rfl,rfl,rfl,rfl,rfl⟩
theorem aW.trans{k:fZ}(a:aW f g)(b:aW g k):aW f k:=
 ⟨b.next.trans a.next,b.gen.trans a.gen,b.com.trans a.com,b.table.trans a.table,b.cur.trans a.cur,b.ids.trans a.ids⟩
theorem aW.setN(f:fZ)(b:Nat)(d:Nd):aW f (setN f b d):=⟨rfl,rfl,rfl,rfl,rfl,rfl⟩
theorem aW.takeAt(f:fZ)(b:Nat)(d:Nd):aW f (takeAt f b d):=⟨rfl,rfl,rfl,rfl,by simp[Fo.takeAt],rfl⟩
theorem aW.freeB(f:fZ)(b:Nat):aW f (freeB f b):=⟨rfl,rfl,rfl,rfl,by simp[Fo.freeB],rfl⟩
theorem aW.letGo(f:fZ)(b:Nat):aW f (letGo f b):=by
 refine⟨?_,?_,lK f b,?_,iE f b,by rw[dV]⟩<;>(unfold Fo.letGo;split<;>rfl)
theorem aW.setL(f:fZ)(L:Loc)(q:Nat):aW f (setL f L q):=by
 cases L with
 | inr bi=>obtain⟨b,i⟩:=bi;exact aW.setN f b _
 | inl t=>
  refine⟨rfl,rfl,rfl,rfl,rfl,?_⟩;show(f.roots.set t _).map Prod.fst=_
  rw[List.map_set];refine List.ext_getElem? fun j=>?_;rw[List.getElem?_set];split
  ·rename_i h;subst h
   by_cases hl:t<f.roots.length
   ·simp[gD,hl]
   ·simp[hl]
  ·rfl
theorem aW.shadowAt(f:fZ)(L:Loc)(q:Nat):aW f (shadowAt f L q):=((aW.takeAt f q _).trans (aW.setL _ L q)).trans (aW.letGo _ _)
theorem aW.splitF(f:fZ)(p:Nat)(pes:List E3)(a c:Nat)(k:Int)(ces:List E3)(m q:Nat)(key:ByteArray):aW f (splitF f p pes a c k ces m q key):=((aW.setN f _ _).trans (aW.takeAt _ _ _)).trans (aW.setN _ _ _)
theorem aW.growF(f:fZ)(t r:Nat)(k:Int)(es:List E3)(m q top:Nat)(k0 k1:ByteArray):aW f (growF f t r k es m q top k0 k1):=(((aW.setN f _ _).trans (aW.takeAt _ _ _)).trans (aW.takeAt _ _ _)).trans (aW.setL _ _ _)
theorem aW.mergeF(f:fZ)(p c s:Nat)(k:Int)(ces pes:List E3):aW f (mergeF f p c s k ces pes):=((aW.setN f _ _).trans (aW.setN _ _ _)).trans (aW.letGo _ _)
theorem aW.moveF(f:fZ)(p c s:Nat)(k:Int)(ces ses pes:List E3):aW f (moveF f p c s k ces ses pes):=((aW.setN f _ _).trans (aW.setN _ _ _)).trans (aW.setN _ _ _)
theorem aW.fallF(f:fZ)(t r c:Nat):aW f (fallF f t r c):=(aW.freeB f r).trans (aW.setL _ _ _)
theorem aW.len{f':fZ}(h:aW f f'):f'.roots.length=f.roots.length:=by simpa using congrArg List.length h.ids
abbrev own(f:fZ)(b:Nat):Prop:=cu f b=1∧co f b=0
def shadow(f:fZ)(L:Loc):Option (fZ×Nat):=
 if own f (bI f L)then some (f,bI f L)else if aF f=0 then none else some (shadowAt f L (aF f),aF f)
def stepDown(f:fZ)(b:Nat)(key:ByteArray):Option (fZ×Nat):=
 match shadow (setN f b (2,lowK (look f b).2 key)) (.ent b (bK (lowK (look f b).2 key) key))with
 | none=>none
 | some (g,c)=>
  if(look g c).2.length=5 then
   if aF g=0 then none else
    some (splitF g b (look g b).2 (bK (lowK (look f b).2 key) key) c (look g c).1 (look g c).2 3 (aF g) (ky (look g c).2 3),if kl key (ky (look g c).2 3)=true then c else aF g)
  else some (g,c)
def putAt:Nat→fZ→Nat→ByteArray→ByteArray→Option (fZ×Bool)
 | 0,f,b,key,val=>some (setN f b (1,putE (look f b).2 key val),fD (look f b).2 key)
 | h+1,f,b,key,val=>match stepDown f b key with
  | none=>none
  | some (g,c)=>putAt h g c key val
def bM(f:fZ)(t r:Nat):Option (fZ×Nat):=
 if aF f=0 then none else
 if aF (takeAt (setN f r ((look f r).1,(look f r).2.take 3)) (aF f) ((look f r).1,(look f r).2.drop 3))=0 then none else
  some (growF f t r (look f r).1 (look f r).2 3 (aF f) (aF (takeAt (setN f r ((look f r).1,(look f r).2.take 3)) (aF f) ((look f r).1,(look f r).2.drop 3))) (ky (look f r).2 0) (ky (look f r).2 3),
   aF (takeAt (setN f r ((look f r).1,(look f r).2.take 3)) (aF f) ((look f r).1,(look f r).2.drop 3)))
def put(f:fZ)(t H:Nat)(key val:ByteArray):Option (fZ×Bool):=
 match shadow f (.root t)with
 | none=>none
 | some (g,r)=>
  if(look g r).2.length=5 then
   match bM g t r with
   | none=>none
   | some (k,top)=>putAt (H+1) k top key val
  else putAt H g r key val
theorem Wk.shadow_ent(w:Wk f t H)(p:aN f t H P b (h+1) lo hi)(af:f.nodes b=some (2,es))(am:i<es.length)(hs:shadow f (.ent b i)=some (g,c)):
  Wk g t H∧aN g t H P b (h+1) lo hi∧aN g t H (b :: P) c h (some (ky es i)) (nxt es i hi)∧(∃es',g.nodes b=some (2,es')∧es'.length=es.length∧(∀j,ky es' j=ky es j)∧kd es' i=c)∧g.nodes c=f.nodes (kd es i)∧cu g c=1∧co g c=0∧(cD f t H→cD g t H)∧aW f g:=by
 have hg:bI f (.ent b i)=kd es i:=by simp only[bI,aE af];rfl
 unfold shadow at hs;rw[hg]at hs;by_cases ho:own f (kd es i)
 ·rw[if_pos ho]at hs;cases hs
  exact⟨w,p,aN.down p af am ho.1,⟨es,af,rfl,fun _=>rfl,rfl⟩,rfl,ho.1,ho.2,id,aW.refl _⟩
 ·rw[if_neg ho]at hs
  by_cases hl:aF f=0
  ·rw[if_pos hl]at hs;cases hs
  ·rw[if_neg hl]at hs;cases hs
   obtain⟨l1,l2,l3,l4⟩:=aR hl;obtain⟨d,hd⟩:=w.ic.kid_live af (aP am);obtain⟨a1,a2,a3,a4,a5,a6,a7,a8,a9⟩:=w.shadowEnt p af am hd l1 l2 l3;refine⟨a1,a2,a3,⟨_,a4,by simp,fun j=>?_,?_⟩,by rw[a5,hd],a6,?_,a9,aW.shadowAt f _ _⟩
   ·simp only[ky];rw[bA _ _ _ _ _ am]
    by_cases e:j=i
    ·rw[if_pos e,e]
    ·rw[if_neg e]
   ·simp only[kd];rw[bA _ _ _ _ _ am,if_pos rfl];simp[ch]
   ·unfold co;rw[a7];exact l4
theorem Wk.shadow_root(w:Wk f t H){r:Nat}(hs:shadow f (.root t)=some (g,r)):
  Wk g t H∧aN g t H [] r H none none∧aB g t=r∧g.nodes r=f.nodes (aB f t)∧cu g r=1∧co g r=0∧(cD f t H→cD g t H)∧aW f g:=by
 have hg:bI f (.root t)=aB f t:=rfl;unfold shadow at hs;rw[hg]at hs;by_cases ho:own f (aB f t)
 ·rw[if_pos ho]at hs;cases hs
  exact⟨w,aN.here ho.1,rfl,rfl,ho.1,ho.2,id,aW.refl _⟩
 ·rw[if_neg ho]at hs
  by_cases hl:aF f=0
  ·rw[if_pos hl]at hs;cases hs
  ·rw[if_neg hl]at hs;cases hs
   obtain⟨l1,l2,l3,l4⟩:=aR hl;obtain⟨d,hd⟩:=w.ic.root_live (aO w.tl);obtain⟨a1,a2,a3,a4,a5,a6,a7⟩:=w.shadowRoot hd l1 l2 l3;have hc:cu (shadowAt f (.root t) (aF f)) (aF f)=1:=by
    have:=(a2.named a1.ic a1.tl (aF f) List.mem_cons_self).1;exact this
   refine⟨a1,a2,a3,a4.trans hd.symm,hc,?_,a7,aW.shadowAt f _ _⟩;unfold co;rw[a5];exact l4
theorem aN.inner(w:Wk f t H)(p:aN f t H P b (h+1) lo hi):∃es,f.nodes b=some (2,es)∧eB es lo hi∧es≠[]:=by
 obtain⟨es,e1,e2,e3,_⟩:=(p.ok w.ok).1;exact⟨es,e1,e2,e3⟩
theorem aN.leaf(w:Wk f t H)(p:aN f t H P b 0 lo hi):∃es,f.nodes b=some (1,es)∧eB es lo hi∧∀i,i<es.length→(es.getD i e0).2.2=0:=(p.ok w.ok).1
theorem Wk.stepDown(w:Wk f t H)(p:aN f t H P b (h+1) lo hi)(hl:loR lo key)(hh:hiR hi key)(h5:sz f.nodes b<5)(hs:stepDown f b key=some (g,c)):
  ∃P' lo' am,Wk g t H∧aN g t H P' c h lo' am∧loR lo' key∧hiR am key∧sz g.nodes c<5∧(cD f t H→cD g t H)∧aW f g:=by
 obtain⟨es,af,qg,av⟩:=p.inner w;have hz:es.length<5:=by unfold sz at h5;rw[af]at h5;exact h5
 obtain⟨w1,p1,r1⟩:=w.lowKey p af key hl;unfold Fo.stepDown at hs;rw[aE af]at hs;simp only at hs;generalize hK:lowK es key=es1 at *;have ep:(setN f b (2,es1)).nodes b=some (2,es1):=aD _ _ _;have d8:es1.length=es.length:=by rw[←hK];exact cK es key
 have lv:es1≠[]:=fun e=>av (List.length_eq_zero_iff.1 (by rw[←d8,e];rfl));obtain⟨_,q1,ye,_⟩:=p1.inner w1;rw[ep]at q1;cases q1;generalize hI:bK es1 key=i at *;have ew:i<es1.length:=by rw[←hI];exact eE key lv
 have pq:loR (some (ky es1 i)) key:=by
  rw[←hI];exact aJF ye.srt key (by rw[←hK];exact(vH es key av).1) lv
 have y7:hiR (nxt es1 i hi) key:=by
  by_cases e:i+1<es1.length
  ·rw[cL _ e];exact aJE ye.srt key e (by omega)
  ·rw[eN _ e];exact hh
 cases al:shadow (setN f b (2,es1)) (.ent b i)with
 | none=>rw[al]at hs;cases hs
 | some gc=>
  obtain⟨g1,c1⟩:=gc;rw[al]at hs;simp only at hs;obtain⟨w2,p2,p3,⟨es2,m1,m2,m3,m4⟩,m5,m6,m7,m8,m9⟩:=w1.shadow_ent p1 ep ew al;have wi:=(aW.setN f b (2,es1)).trans m9;obtain⟨⟨k,ces⟩,hd⟩:=w2.ic.live (x:=c1) (by rw[m6];omega);have au:ces.length≤5:=by
   obtain⟨d',d1,_,d2,_⟩:=((p3.ok w2.ok).1).sz_pos;rw[hd]at d1;cases d1;exact d2
  rw[aE hd]at hs;simp only at hs;by_cases hfull:ces.length=5
  ·rw[if_pos hfull]at hs
   by_cases hlw:aF g1=0
   ·rw[if_pos hlw]at hs;cases hs
   ·rw[if_neg hlw,aE m1]at hs
    simp only at hs
    obtain⟨l1,l2,l3,l4⟩:=aR hlw;have yh:i<es2.length:=by rw[m2];exact ew
    obtain⟨w4,p4,p5,p6,n1,n2,n3,n4⟩:=w2.split p2 m1 (by rw[m2,d8];exact hz) yh (by rw[m4];exact hd) (by rw[m4];exact m6) (m:=3) (by omega) (by omega) l1 l2 l3;rw[m4]at w4 p4 p5 p6 n1 n2 n3 n4;simp only[sJ,Prod.mk.injEq]at hs;obtain⟨rfl,rfl⟩:=hs;have i5:nxt es2 i hi=nxt es1 i hi:=by unfold nxt;rw[m2,m3]
    by_cases mx:kl key (ky ces 3)=true
    ·rw[if_pos mx]
     refine⟨_,_,_,w4,p5,by rw[m3];exact pq,mx,?_,fun hr=>n4 (m8 (r1 hr)),wi.trans (aW.splitF ..)⟩;unfold sz;rw[n2];simp only[List.length_take];omega
    ·rw[if_neg mx]
     refine⟨_,_,_,w4,p6,Bool.eq_false_iff.2 mx,by rw[i5];exact y7,?_,fun hr=>n4 (m8 (r1 hr)),wi.trans (aW.splitF ..)⟩;unfold sz;rw[n3];simp only[List.length_drop];omega
  ·rw[if_neg hfull]at hs
   simp only[sJ,Prod.mk.injEq]at hs;obtain⟨rfl,rfl⟩:=hs;refine⟨_,_,_,w2,p3,pq,y7,?_,fun hr=>m8 (r1 hr),wi⟩;unfold sz;rw[hd];simp only;omega
theorem sY:∀{h:Nat} {f:fZ} (w:Wk f t H) {P:List Nat} {b:Nat} {lo hi:OB} (p:aN f t H P b h lo hi) (hl:loR lo key) (hh:hiR hi key) (h5:sz f.nodes b<5) (hr:cD f t H) {g:fZ} {th:Bool} (hs:putAt h f b key val=some (g,th)),
  Wk g t H∧cD g t H∧aW f g
 | 0,f,w,P,b,lo,hi,p,hl,hh,h5,hr,g,th,hs=>by
  obtain⟨es,af,hn,hc⟩:=p.leaf w;unfold putAt at hs;rw[aE af]at hs;simp only[sJ,Prod.mk.injEq]at hs;obtain⟨rfl,rfl⟩:=hs;have hz:es.length<5:=by unfold sz at h5;rw[af]at h5;exact h5
  have au:=kM es key;obtain⟨a1,a2⟩:=w.leaf p af (aEH hn hz key val hl hh) (fun i am=>by
   rw[zJ]at am;unfold putE;split
   ·rename_i hk
    rw[if_pos hk]at am;rw[bA _ _ _ _ _ ((dJ es key).1 hk).1];split
    ·exact hc _ ((dJ es key).1 hk).1
    ·exact hc i am
   ·rename_i hk
    rw[if_neg hk]at am;rw[jJ _ _ _ _ au];split
    ·exact hc i (by omega)
    ·split
     ·rfl
     ·exact hc _ (by omega)) (fun hP=>by
   have:=(p.ok w.ok).2 hP
   unfold sz at this;rw[af]at this;simp only at this;rw[zJ];split<;>omega)
  exact⟨a1,a2 hr,aW.setN _ _ _⟩
 | h+1,f,w,P,b,lo,hi,p,hl,hh,h5,hr,g,th,hs=>by
  unfold putAt at hs;cases mm:stepDown f b key with
  | none=>rw[mm]at hs;cases hs
  | some gc=>
   obtain⟨g1,c1⟩:=gc;rw[mm]at hs;obtain⟨P',lo',am,w1,p1,l1,l2,l3,l4,l5⟩:=w.stepDown p hl hh h5 mm;obtain⟨a1,a2,a3⟩:=sY w1 p1 l1 l2 l3 (l4 hr) hs;exact⟨a1,a2,l5.trans a3⟩
theorem aBD(w:Wk f t H)(hr:cD f t H){th:Bool}(hs:put f t H key val=some (g,th)):∃H',Wk g t H'∧cD g t H'∧aW f g:=by
 unfold put at hs;cases al:shadow f (.root t)with
 | none=>rw[al]at hs;cases hs
 | some gr=>
  obtain⟨g1,r1⟩:=gr;rw[al]at hs;simp only at hs;obtain⟨w1,p1,a1,a2,a3,a4,a5,a6⟩:=w.shadow_root al;obtain⟨⟨k,es⟩,hd⟩:=w1.ic.live (x:=r1) (by rw[a3];omega);have au:es.length≤5:=by
   obtain⟨d',d1,_,d2,_⟩:=((p1.ok w1.ok).1).sz_pos;rw[hd]at d1;cases d1;exact d2
  rw[aE hd]at hs;simp only at hs;by_cases hfull:es.length=5
  ·rw[if_pos hfull]at hs
   cases bm:bM g1 t r1 with
   | none=>rw[bm]at hs;cases hs
   | some kt=>
    obtain⟨g2,top⟩:=kt;rw[bm]at hs;simp only at hs;unfold bM at bm;rw[aE hd]at bm;simp only at bm;by_cases pf:aF g1=0
    ·rw[if_pos pf]at bm;cases bm
    ·rw[if_neg pf]at bm
     generalize hT:aF (takeAt (setN g1 r1 (k,es.take 3)) (aF g1) (k,es.drop 3))=tp at *;by_cases d8:tp=0
     ·rw[if_pos d8]at bm;cases bm
     ·rw[if_neg d8]at bm
      simp only[sJ,Prod.mk.injEq]at bm;obtain⟨rfl,rfl⟩:=bm;obtain⟨l1,l2,l3,l4⟩:=aR pf;obtain⟨m1,m2,m3,m4⟩:=aR (hT▸d8);rw[hT]at m1 m2 m3;have nk:∀x,cu (takeAt (setN g1 r1 (k,es.take 3)) (aF g1) (k,es.drop 3)) x=if aF g1=x then 1 else cu g1 x:=fun x=>dT (f:=setN g1 r1 (k,es.take 3)) (k,es.drop 3) l2 x;rw[nk]at m3;have su:tp≠aF g1:=fun e=>by rw[if_pos e.symm]at m3;omega
      rw[if_neg (Ne.symm su)]at m3;have m2':tp<g1.cur.length:=by simpa [takeAt,setN] using m2
      subst a1;obtain⟨w2,p2,b1,b2,b3⟩:=w1.grow a3 hd (m:=3) (by omega) (by omega) l1 l2 l3 m1 m2' m3 su;obtain⟨c1,c2,c3⟩:=sY w2 p2 trivial trivial (by unfold sz;rw[b3];simp) b2 hs;exact⟨_,c1,c2,(a6.trans (aW.growF ..)).trans c3⟩
  ·rw[if_neg hfull]at hs
   obtain⟨c1,c2,c3⟩:=sY w1 p1 trivial trivial (by unfold sz;rw[hd];simp only;omega) (a5 hr) hs;exact⟨_,c1,c2,a6.trans c3⟩
def OkN(nodes:Nat→Option Nd)(h:Nat)(d:Nd)(lo hi:OB):Prop:=match h with
 | 0=>d.1=1∧eB d.2 lo hi∧∀i,i<d.2.length→(d.2.getD i e0).2.2=0
 | h+1=>d.1=2∧eB d.2 lo hi∧d.2≠[]∧(∀i,i<d.2.length→(d.2.getD i e0).2.1=ByteArray.empty)∧
   ∀i,i<d.2.length→2≤sz nodes (kd d.2 i)∧Ok nodes h (kd d.2 i) (some (ky d.2 i)) (nxt d.2 i hi)
theorem dN(hd:nodes b=some d):Ok nodes h b lo hi↔OkN nodes h d lo hi:=by
 obtain⟨k,es⟩:=d;cases h with
 | zero=>
  constructor
  ·rintro⟨es',e1,e2⟩;rw[hd]at e1;cases e1;exact⟨rfl,e2⟩
  ·rintro⟨e1,e2⟩;simp only at e1;subst e1;exact⟨es,hd,e2⟩
 | succ h=>
  constructor
  ·rintro⟨es',e1,e2⟩;rw[hd]at e1;cases e1;exact⟨rfl,e2⟩
  ·rintro⟨e1,e2⟩;simp only at e1;subst e1;exact⟨es,hd,e2⟩
theorem OkN.node(k:OkN nodes h d lo hi):eB d.2 lo hi:=by
 cases h with
 | zero=>exact k.2.1
 | succ h=>exact k.2.1
theorem OkN.kids(k:OkN nodes h d lo hi)(hf:∀c∈kids d,∀h' lo' am,Ok nodes h' c lo' am→Ok nodes' h' c lo' am∧sz nodes' c=sz nodes c):OkN nodes' h d lo hi:=by
 cases h with
 | zero=>exact k
 | succ h=>
  obtain⟨e1,e2,e3,e4,e5⟩:=k;refine⟨e1,e2,e3,e4,fun j hj=>?_⟩;obtain⟨kk,es⟩:=d;simp only at e1;subst e1;obtain⟨g1,g2⟩:=hf _ (aP hj) _ _ _ (e5 j hj).2;exact⟨by rw[g2];exact(e5 j hj).1,g1⟩
theorem OkN.join{a b:List E3}{m m':ByteArray}(ka:OkN nodes h (k,a) lo (some m))(kb:OkN nodes h (k,b) (some m') hi)(hm:kl m' m=false)(ha:a≠[])(hb:b≠[])(h5:a.length+b.length≤5):OkN nodes h (k,a++b) lo hi:=by
 have na:=ka.node;have nb:=kb.node;simp only at na nb;have ik:0<b.length:=List.length_pos_iff.2 hb;have gj:∀j,ky (a++b) j=if j<a.length then ky a j else ky b (j-a.length):=fun j=>by unfold ky;rw[cX];split<;>rfl
 have iw:∀j,kd (a++b) j=if j<a.length then kd a j else kd b (j-a.length):=fun j=>by unfold kd;rw[cX];split<;>rfl
 have Fz:∀j,j<b.length→kl (ky b j) m=false:=fun j hj=>gL hm (nb.lo j hj);have pz:∀i j,i<a.length→j<b.length→kl (ky a i) (ky b j)=true:=fun i j hi hj=>kV (na.hi i hi) (Fz j hj);have nr:eB (a++b) lo hi:=by
  refine⟨fun i j im hj=>?_,fun j hj=>?_,fun j hj=>?_,by rw[lP];exact h5⟩
  ·rw[lP]at hj
   rw[gj,gj];by_cases i1:i<a.length
   ·rw[if_pos i1]
    by_cases j1:j<a.length
    ·rw[if_pos j1];exact na.srt i j im j1
    ·rw[if_neg j1];exact pz _ _ i1 (by omega)
   ·rw[if_neg i1,if_neg (by omega)];exact nb.srt _ _ (by omega) (by omega)
  ·rw[lP]at hj
   rw[gj];split
   ·exact na.lo j (by assumption)
   ·cases lo with
    | none=>trivial
    | some l=>
     have OK:0<a.length:=List.length_pos_iff.2 ha;exact gL (na.lo 0 OK) (fE (pz 0 _ OK (by omega)))
  ·rw[lP]at hj
   rw[gj];split
   ·rename_i j1;exact rV (pz j 0 j1 ik) (nb.hi 0 ik)
   ·exact nb.hi _ (by omega)
 cases h with
 | zero=>
  refine⟨ka.1,nr,fun j hj=>?_⟩;simp only[lP]at hj;simp only;rw[cX];split
  ·exact ka.2.2 j (by assumption)
  ·exact kb.2.2 _ (by simp only;omega)
 | succ h=>
  obtain⟨e1,_,_,e4,e5⟩:=ka;obtain⟨_,_,_,f4,f5⟩:=kb;simp only at e1 e4 e5 f4 f5;refine⟨e1,nr,by simp[ha],fun j hj=>?_,fun j hj=>?_⟩
  ·simp only[lP]at hj
   simp only;rw[cX];split
   ·exact e4 j (by assumption)
   ·exact f4 _ (by omega)
  ·simp only[lP]at hj
   simp only
   rw[iw,gj];by_cases j1:j<a.length
   ·rw[if_pos j1,if_pos j1]
    refine⟨(e5 j j1).1,?_⟩;by_cases j2:j+1<a.length
    ·rw[cL _ (by rw[lP];omega),gj,if_pos j2]
     have:=(e5 j j1).2
     rw[cL _ j2]at this;exact this
    ·have h':=(e5 j j1).2
     rw[eN _ j2]at h';rw[cL _ (by rw[lP];omega),gj,if_neg j2,show j+1-a.length=0 from by omega];exact h'.wide (fun _ q=>q) (fun x hx=>by have bq:kl x m=true:=hx;exact kV bq (Fz 0 ik))
   ·rw[if_neg j1,if_neg j1]
    refine⟨(f5 _ (by omega)).1,?_⟩;have:nxt (a++b) j hi=nxt b (j-a.length) hi:=by
     unfold nxt;rw[lP];by_cases j2:j+1<a.length+b.length
     ·rw[if_pos j2,if_pos (by omega),gj,if_neg (by omega),show j+1-a.length=j-a.length+1 from by omega]
     ·rw[if_neg j2,if_neg (by omega)]
    rw[this];exact(f5 _ (by omega)).2
theorem OkN.take(hk:OkN nodes h (k,es) lo hi)(hm:0<m)(gy:m<es.length):OkN nodes h (k,es.take m) lo (some (ky es m)):=by
 cases h with
 | zero=>
  obtain⟨e1,e,e3⟩:=hk;simp only at e1 e e3;refine⟨e1,⟨tL e.srt m (by omega),fun j hj=>?_,fun j hj=>?_,?_⟩,fun j hj=>?_⟩
  ·simp only at hj ⊢;rw[len_take' (by omega)]at hj;rw[eH hj];exact e.lo j (by omega)
  ·simp only at hj ⊢;rw[len_take' (by omega)]at hj;rw[eH hj];exact e.srt j m hj gy
  ·simp only;rw[len_take' (by omega)];have:=e.le5;omega
  ·simp only at hj ⊢;rw[len_take' (by omega)]at hj;rw[fR _ _ _ hj];exact e3 j (by omega)
 | succ h=>
  obtain⟨e1,e,e3,e4,e5⟩:=hk;simp only at e1 e e3 e4 e5;refine⟨e1,⟨tL e.srt m (by omega),fun j hj=>?_,fun j hj=>?_,?_⟩,oK gy hm,fun j hj=>?_,fun j hj=>?_⟩
  ·simp only at hj ⊢;rw[len_take' (by omega)]at hj;rw[eH hj];exact e.lo j (by omega)
  ·simp only at hj ⊢;rw[len_take' (by omega)]at hj;rw[eH hj];exact e.srt j m hj gy
  ·simp only;rw[len_take' (by omega)];have:=e.le5;omega
  ·simp only at hj ⊢;rw[len_take' (by omega)]at hj;rw[fR _ _ _ hj];exact e4 j (by omega)
  ·simp only at hj ⊢;rw[len_take' (by omega)]at hj
   rw[aCS hj,eH hj];refine⟨(e5 j (by omega)).1,?_⟩;have:nxt (es.take m) j (some (ky es m))=nxt es j hi:=by
    rw[cL (es:=es) hi (by omega)];by_cases q:j+1<m
    ·rw[cL _ (by rw[len_take' (by omega)];exact q),eH q]
    ·rw[eN _ (by rw[len_take' (by omega)];exact q),show j+1=m from by omega]
   rw[this];exact(e5 j (by omega)).2
theorem OkN.drop(hk:OkN nodes h (k,es) lo hi)(gy:m<es.length):OkN nodes h (k,es.drop m) (some (ky es m)) hi:=by
 have nr:eB es lo hi→eB (es.drop m) (some (ky es m)) hi:=fun e=>by
  refine⟨zT e.srt m,fun j hj=>?_,fun j hj=>?_,?_⟩
  ·rw[List.length_drop]at hj;rw[gC]
   by_cases e0:j=0
   ·subst e0;exact eD _
   ·exact fE (e.srt m (m+j) (by omega) (by omega))
  ·rw[List.length_drop]at hj;rw[gC];exact e.hi _ (by omega)
  ·rw[List.length_drop];have:=e.le5;omega
 cases h with
 | zero=>
  obtain⟨e1,e,e3⟩:=hk;simp only at e1 e e3;refine⟨e1,nr e,fun j hj=>?_⟩;simp only at hj ⊢;rw[List.length_drop]at hj;rw[eU];exact e3 _ (by omega)
 | succ h=>
  obtain⟨e1,e,e3,e4,e5⟩:=hk;simp only at e1 e e3 e4 e5;refine⟨e1,nr e,nB gy,fun j hj=>?_,fun j hj=>?_⟩
  ·simp only at hj ⊢;rw[List.length_drop]at hj;rw[eU];exact e4 _ (by omega)
  ·simp only at hj ⊢;rw[List.length_drop]at hj
   rw[aCR,gC];refine⟨(e5 _ (by omega)).1,?_⟩;have:nxt (es.drop m) j hi=nxt es (m+j) hi:=by
    unfold nxt;rw[List.length_drop,gC];by_cases q:m+j+1<es.length
    ·rw[if_pos (by omega),if_pos q,show m+(j+1)=m+j+1 from by omega]
    ·rw[if_neg (by omega),if_neg q]
   rw[this];exact(e5 _ (by omega)).2
def Mem(nodes:Nat→Option Nd):Nat→Nat→ByteArray→Prop
 | 0,b,key=>∃es,nodes b=some (1,es)∧∃j,j<es.length∧ky es j=key
 | h+1,b,key=>∃es,nodes b=some (2,es)∧∃j,j<es.length∧Mem nodes h (kd es j) key
theorem Mem.frame{U:Nat→Prop}(hU:∀x d,U x→nodes x=some d→∀c∈Fo.kids d,U c)(he:∀x,U x→nodes' x=nodes x):
  ∀h b,U b→Mem nodes h b key→Mem nodes' h b key
 | 0,b,hb,h=>by
  obtain⟨es,h1,h2⟩:=h;exact⟨es,(he b hb).trans h1,h2⟩
 | h+1,b,hb,hk=>by
  obtain⟨es,h1,j,hj,h2⟩:=hk;exact⟨es,(he b hb).trans h1,j,hj,Mem.frame hU he h _ (hU b _ hb h1 _ (aP hj)) h2⟩
theorem Mem.bounds:∀{h b:Nat} {lo hi:OB},Ok nodes h b lo hi→Mem nodes h b key→loR lo key∧hiR hi key
 | 0,b,lo,hi,hk,hm=>by
  obtain⟨es,e1,e2,_⟩:=hk;obtain⟨es',f1,j,hj,rfl⟩:=hm;rw[e1]at f1;cases f1;exact⟨e2.lo j hj,e2.hi j hj⟩
 | h+1,b,lo,hi,hk,hm=>by
  obtain⟨es,e1,e2,_,_,e5⟩:=hk;obtain⟨es',f1,j,hj,f2⟩:=hm;rw[e1]at f1;cases f1;obtain⟨g1,g2⟩:=Mem.bounds (e5 j hj).2 f2;constructor
  ·cases lo with
   | none=>trivial
   | some l=>exact gL (e2.lo j hj) g1
  ·by_cases q:j+1<es.length
   ·rw[cL _ q]at g2;exact rV g2 (e2.hi _ q)
   ·rw[eN _ q]at g2;exact g2
theorem Mem.at(af:nodes b=some (2,es))(hk:Ok nodes (h+1) b lo hi)(hm:Mem nodes (h+1) b key):Mem nodes h (kd es (bK es key)) key:=by
 obtain⟨es',e1,e2,_,_,e5⟩:=hk;rw[af]at e1;cases e1;obtain⟨es',f1,j,hj,f2⟩:=hm;rw[af]at f1;cases f1;obtain⟨g1,g2⟩:=Mem.bounds (e5 j hj).2 f2;have:bK es key=j:=aCH e2.srt key hj g1 fun q=>by rw[cL _ q]at g2;exact g2
 rw[this];exact f2
