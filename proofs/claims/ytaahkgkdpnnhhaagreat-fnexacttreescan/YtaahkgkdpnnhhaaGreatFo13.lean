import Derived.Test.YtaahkgkdpnnhhaaGreatFo1
set_option linter.all false
namespace Go.Proofs.YtaahkgkdpnnhhaaGreat.Fo
variable{a key val:ByteArray}{k:Int}{ces es es' les res:List E3}{P:List Nat}{H b c h i j m q t:Nat}{nodes nodes':Nat→Option Nd}{d:Nd}{hi lo:OB}{f g:fZ}
theorem aCZ(hi:i≤es.length)(e:E3)(j:Nat):ky (insE es i e) j=if j<i then ky es j else if j=i then e.1 else ky es (j-1):=by
 unfold ky;rw[jI _ _ _ _ hi];split
 ·rfl
 ·split<;>rfl
theorem aJV(hi:i≤es.length)(e:E3)(j:Nat):kd (insE es i e) j=if j<i then kd es j else if j=i then ch e else kd es (j-1):=by
 unfold kd;rw[jI _ _ _ _ hi];split
 ·rfl
 ·split<;>rfl
theorem eE(h:j<m):ky (es.take m) j=ky es j:=by unfold ky;rw[fS _ _ _ h]
theorem aCX(h:j<m):kd (es.take m) j=kd es j:=by unfold kd;rw[fS _ _ _ h]
theorem gF:ky (es.drop m) j=ky es (m+j):=by unfold ky;rw[eW]
theorem aCW:kd (es.drop m) j=kd es (m+j):=by unfold kd;rw[eW]
theorem len_take'(h:m≤es.length):(es.take m).length=m:=by rw[List.length_take];omega
theorem cJ(hi:OB)(h:i+1<es.length):nxt es i hi=some (ky es (i+1)):=by unfold nxt;rw[if_pos h]
theorem eM(hi:OB)(h:¬i+1<es.length):nxt es i hi=hi:=by unfold nxt;rw[if_neg h]
theorem rO{b:ByteArray}(h:kl a b=true)(hb:hiR hi b):hiR hi a:=by
 cases hi with
 | none=>trivial
 | some u=>exact jN h hb
theorem aHM{b:ByteArray}(h:kl a b=true)(ha:loR lo a):loR lo b:=by
 cases lo with
 | none=>trivial
 | some l=>exact fF ha (eN h)
theorem tF(h:Srt es)(m:Nat)(hm:m≤es.length):Srt (es.take m):=fun i j g8 hj=>by
 rw[len_take' hm]at hj;rw[eE (by omega),eE hj];exact h i j g8 (by omega)
theorem aAA(h:Srt es)(m:Nat):Srt (es.drop m):=fun i j g8 hj=>by
 rw[List.length_drop]at hj;rw[gF,gF];exact h _ _ (by omega) (by omega)
theorem dX.strict{l:ByteArray}(h:dX es (some l) hi)(h0:0<m)(hm:m<es.length):kl l (ky es m)=true:=
 kW (h.lo 0 (by omega)) (h.srt 0 m h0 hm)
theorem Ok.cutLow(hd:nodes b=some (k,es))(hk:Ok nodes h b lo hi)(hm:0<m)(g9:m<es.length)(hq:nodes' q=some (k,es.take m))
  (hf:∀c∈kids (k,es),∀h' lo' ak,Ok nodes h' c lo' ak→Ok nodes' h' c lo' ak∧sz nodes' c=sz nodes c):Ok nodes' h q lo (some (ky es m)):=by
 have nr:∀{es:List E3},m<es.length→dX es lo hi→dX (es.take m) lo (some (ky es m)):=fun {es} g9 e=>by
  refine⟨tF e.srt m (by omega),fun j hj=>?_,fun j hj=>?_,?_⟩
  ·rw[len_take' (by omega)]at hj;rw[eE hj];exact e.lo j (by omega)
  ·rw[len_take' (by omega)]at hj;rw[eE hj];exact e.srt j m hj g9
  ·rw[len_take' (by omega)];have:=e.le5;omega
 cases h with
 | zero=>
  obtain⟨es',e1,e2,e3⟩:=hk;rw[hd]at e1;cases e1;refine⟨_,hq,nr g9 e2,fun j hj=>?_⟩;rw[len_take' (by omega)]at hj;rw[fS _ _ _ hj];exact e3 j (by omega)
 | succ h=>
  obtain⟨es',e1,e2,e3,e4,e5⟩:=hk;rw[hd]at e1;cases e1;refine⟨_,hq,nr g9 e2,oH g9 hm,fun j hj=>?_,fun j hj=>?_⟩
  ·rw[len_take' (by omega)]at hj
   rw[fS _ _ _ hj];exact e4 j (by omega)
  ·rw[len_take' (by omega)]at hj
   obtain⟨g1,g2⟩:=hf _ (aP (show j<es.length by omega)) _ _ _ (e5 j (by omega)).2;rw[aCX hj,eE hj];refine⟨by rw[g2];exact(e5 j (by omega)).1,?_⟩;have:nxt (es.take m) j (some (ky es m))=nxt es j hi:=by
    rw[cJ (es:=es) hi (by omega)];by_cases e:j+1<m
    ·rw[cJ _ (by rw[len_take' (by omega)];exact e),eE e]
    ·rw[eM _ (by rw[len_take' (by omega)];exact e),show j+1=m from by omega]
   rw[this];exact g1
theorem Ok.cutHigh(hd:nodes b=some (k,es))(hk:Ok nodes h b lo hi)(g9:m<es.length)(hq:nodes' q=some (k,es.drop m))
  (hf:∀c∈kids (k,es),∀h' lo' ak,Ok nodes h' c lo' ak→Ok nodes' h' c lo' ak∧sz nodes' c=sz nodes c):Ok nodes' h q (some (ky es m)) hi:=by
 have nr:∀{es:List E3},m<es.length→dX es lo hi→dX (es.drop m) (some (ky es m)) hi:=fun {es} g9 e=>by
  refine⟨aAA e.srt m,fun j hj=>?_,fun j hj=>?_,?_⟩
  ·rw[List.length_drop]at hj;rw[gF]
   by_cases e0:j=0
   ·subst e0;exact eA _
   ·exact eN (e.srt m (m+j) (by omega) (by omega))
  ·rw[List.length_drop]at hj;rw[gF];exact e.hi _ (by omega)
  ·rw[List.length_drop];have:=e.le5;omega
 cases h with
 | zero=>
  obtain⟨es',e1,e2,e3⟩:=hk;rw[hd]at e1;cases e1;refine⟨_,hq,nr g9 e2,fun j hj=>?_⟩;rw[List.length_drop]at hj;rw[eW];exact e3 _ (by omega)
 | succ h=>
  obtain⟨es',e1,e2,e3,e4,e5⟩:=hk;rw[hd]at e1;cases e1;refine⟨_,hq,nr g9 e2,nE g9,fun j hj=>?_,fun j hj=>?_⟩
  ·rw[List.length_drop]at hj
   rw[eW];exact e4 _ (by omega)
  ·rw[List.length_drop]at hj
   obtain⟨g1,g2⟩:=hf _ (aP (show m+j<es.length by omega)) _ _ _ (e5 (m+j) (by omega)).2;rw[aCW,gF];refine⟨by rw[g2];exact(e5 _ (by omega)).1,?_⟩;have:nxt (es.drop m) j hi=nxt es (m+j) hi:=by
    unfold nxt;rw[List.length_drop,gF];by_cases e:m+j+1<es.length
    ·rw[if_pos (by omega),if_pos e,show m+(j+1)=m+j+1 from by omega]
    ·rw[if_neg (by omega),if_neg e]
   rw[this];exact g1
theorem Wk.split(w:Wk f t H)(p:aN f t H P b (h+1) lo hi)(af:f.nodes b=some (2,es))(h5:es.length<5)(ak:i<es.length)(hd:f.nodes (kd es i)=some (k,ces))(h1:cu f (kd es i)=1)
  {m q:Nat} (hm:2≤m) (g9:m+2≤ces.length) (h9:2≤q) (mj:q<f.cur.length) (hc:cu f q=0):
  let f':=splitF f b es i (kd es i) k ces m q (ky ces m)
  Wk f' t H∧aN f' t H P b (h+1) lo hi∧aN f' t H (b :: P) (kd es i) h (some (ky es i)) (some (ky ces m))∧aN f' t H (b :: P) q h (some (ky ces m)) (nxt es i hi)∧
   f'.nodes b=some (2,insE es (i+1) (ky ces m,.empty,(q:Int)))∧f'.nodes (kd es i)=some (k,ces.take m)∧f'.nodes q=some (k,ces.drop m)∧(cD f t H→cD f' t H):=by
 intro f';obtain⟨I1,I2⟩:=w.ic.split (key:=ky ces m) (m:=m) af ak (rfl:kd es i=_) hd (by omega) (by omega) h9 mj hc;have dh:f.nodes q=none:=(w.ic.dom.dead q).2 hc;have fi:=aP ak;have sc:kd es i≠b:=fun e=>w.ic.not_self af (by rw[←e];exact fi);have AH:kd es i≠q:=fun e=>by rw[e,dh]at hd;cases hd
 have mh:b≠q:=fun e=>by rw[e,dh]at af;cases af
 have AW:=w.ic.not_self hd;obtain⟨es',e1,e2,e3,e4,e5⟩:=(p.ok w.ok).1;rw[af]at e1;cases e1;have nb:f'.nodes b=some (2,insE es (i+1) (ky ces m,.empty,(q:Int))):=by rw[I2,aD]
 have nq:f'.nodes q=some (k,ces.drop m):=by rw[I2,aC _ _ (Ne.symm mh),aD]
 have nc:f'.nodes (kd es i)=some (k,ces.take m):=by rw[I2,aC _ _ sc,aC _ _ AH,aD]
 have nx:∀x,x≠b→x≠q→x≠kd es i→f'.nodes x=f.nodes x:=fun x h1 h2 h3=>by rw[I2,aC _ _ h1,aC _ _ h2,aC _ _ h3]
 have en:∀{x:Nat} {d':Nd},f.nodes x=some d'→x≠q:=fun hx e=>by rw[e,dh]at hx;cases hx
 have Gb:∀x,x=kd es i→cu f x=1∧x∈kids (2,es):=fun x q1=>by rw[q1];exact⟨h1,fi⟩
 have Gf:∀x d,f.nodes x=some d→x≠b→¬x=kd es i→f'.nodes x=some d:=fun x d hx uv Ae=>by rw[nx x uv (en hx) Ae];exact hx
 have fr:=fun {x:Nat} {d':Nd} (hx:f.nodes x=some d')=>p.fr w.ic w.tl af (nodes':=f'.nodes) (fun x=>x=kd es i) Gb Gf hx;have Gm:∀x,cu f' x=if q=x then 1 else cu f x:=fun x=>dQ (f:=setN f (kd es i) (k,ces.take m)) (k,ces.drop m) mj x;have hP:∀y∈b :: P,cu f' y=cu f y:=fun y hy=>by
  obtain⟨dy,JX⟩:=p.live w.ic w.tl y hy;rw[Gm,if_neg (Ne.symm (en JX))]
 have ui:∀c∈kids (k,ces),∀h' lo' ak,Ok f.nodes h' c lo' ak→Ok f'.nodes h' c lo' ak∧sz f'.nodes c=sz f.nodes c:=fun c bo h' lo' ak hk=>by
  obtain⟨dc,i9⟩:=w.ic.kid_live hd bo;exact fr i9 (p.kid2_off w.ic af fi hd bo).1 (fun q'=>AW (q'▸bo)) hk
 have CI:∀y∈P,f'.nodes y=f.nodes y:=fun y hy=>by
  obtain⟨dy,JX⟩:=p.live w.ic w.tl y (List.mem_cons_of_mem _ hy);refine nx y (fun e=>?_) (en JX) fun q'=>?_
  ·obtain⟨uu,hh⟩:=w.ic.ht
   have:=p.high hh y hy;rw[e]at this;omega
  ·exact p.kid_off w.ic af fi (q'▸List.mem_cons_of_mem _ hy)
 have p':aN f' t H P b (h+1) lo hi:=p.mono rfl hP CI;have Gn:dX ces (some (ky es i)) (nxt es i hi):=by
  have:=(e5 i ak).2
  cases h with
  | zero=>obtain⟨_,a1,a2,_⟩:=this;rw[hd]at a1;cases a1;exact a2
  | succ h=>obtain⟨_,a1,a2,_⟩:=this;rw[hd]at a1;cases a1;exact a2
 have ee:kl (ky es i) (ky ces m)=true:=Gn.strict (by omega) (by omega);have Cz:hiR (nxt es i hi) (ky ces m):=Gn.hi m (by omega);have EW:i+1<es.length→kl (ky ces m) (ky es (i+1))=true:=fun ai=>by rw[cJ _ ai]at Cz;exact Cz
 have okc:Ok f'.nodes h (kd es i) (some (ky es i)) (some (ky ces m)):=Ok.cutLow hd (e5 i ak).2 (by omega) (by omega) nc ui;have okq:Ok f'.nodes h q (some (ky ces m)) (nxt es i hi):=Ok.cutHigh hd (e5 i ak).2 (by omega) nq ui;have gw:=aCZ (es:=es) (i:=i+1) (by omega) (ky ces m,.empty,(q:Int));have ie:=aJV (es:=es) (i:=i+1) (by omega) (ky ces m,.empty,(q:Int));have QU:ch (ky ces m,.empty,(q:Int))=q:=by simp[ch]
 rw[QU]at ie;have ah:=iK es (i+1) (ky ces m,.empty,(q:Int));have nxs:∀j,j<i→nxt (insE es (i+1) (ky ces m,.empty,(q:Int))) j hi=nxt es j hi:=fun j hj=>by
  rw[cJ _ (by rw[ah];omega),cJ _ (by omega),gw,if_pos (by omega)]
 have nxi:nxt (insE es (i+1) (ky ces m,.empty,(q:Int))) i hi=some (ky ces m):=by
  rw[cJ _ (by rw[ah];omega),gw,if_neg (by omega),if_pos rfl]
 have nxq:∀j,i<j→nxt (insE es (i+1) (ky ces m,.empty,(q:Int))) j hi=nxt es (j-1) hi:=fun j hj=>by
  by_cases e:j<es.length
  ·rw[cJ _ (by rw[ah];omega),cJ _ (by omega),gw,if_neg (by omega),if_neg (by omega),show j+1-1=j-1+1 from by omega]
  ·rw[eM _ (by rw[ah];omega),eM _ (by omega)]
 have OY:sz f'.nodes (kd es i)=m:=by unfold sz;rw[nc];exact len_take' (by omega)
 have Rr:sz f'.nodes q=ces.length-m:=by unfold sz;rw[nq];exact List.length_drop
 refine⟨w.step p I1 rfl af (fun x=>x=kd es i) Gb Gf ?_ ?_,p',?_,?_,nb,nc,nq,fun hr=>p.rt rfl CI (fun h0 hP=>?_) hr⟩
 ·refine⟨_,nb,⟨?_,?_,?_,by rw[ah];omega⟩,by intro e;rw[e]at ah;simp at ah,?_,?_⟩
  ·intro a c xh bo
   rw[ah]at bo;rw[gw,gw];by_cases a1:a<i+1
   ·rw[if_pos a1]
    by_cases c1:c<i+1
    ·rw[if_pos c1];exact e2.srt a c xh (by omega)
    ·rw[if_neg c1]
     have Vq:kl (ky es a) (ky ces m)=true:=by
      by_cases e:a=i
      ·rw[e];exact ee
      ·exact jN (e2.srt a i (by omega) ak) ee
     by_cases c2:c=i+1
     ·rw[if_pos c2];exact Vq
     ·rw[if_neg c2];exact e2.srt a (c-1) (by omega) (by omega)
   ·rw[if_neg a1,if_neg (show ¬c<i+1 by omega),if_neg (show ¬c=i+1 by omega)]
    by_cases a2:a=i+1
    ·rw[if_pos a2]
     have:=EW (by omega)
     by_cases e:c-1=i+1
     ·rw[e];exact this
     ·exact jN this (e2.srt (i+1) (c-1) (by omega) (by omega))
    ·rw[if_neg a2];exact e2.srt (a-1) (c-1) (by omega) (by omega)
  ·intro j hj
   rw[ah]at hj;rw[gw];by_cases a1:j<i+1
   ·rw[if_pos a1];exact e2.lo j (by omega)
   ·rw[if_neg a1]
    by_cases a2:j=i+1
    ·rw[if_pos a2];exact aHM ee (e2.lo i ak)
    ·rw[if_neg a2];exact e2.lo _ (by omega)
  ·intro j hj
   rw[ah]at hj;rw[gw];by_cases a1:j<i+1
   ·rw[if_pos a1];exact e2.hi j (by omega)
   ·rw[if_neg a1]
    by_cases a2:j=i+1
    ·rw[if_pos a2]
     by_cases e:i+1<es.length
     ·exact rO (EW e) (e2.hi _ e)
     ·rw[eM _ e]at Cz;exact Cz
    ·rw[if_neg a2];exact e2.hi _ (by omega)
  ·intro j hj
   rw[ah]at hj;rw[jI _ _ _ _ (by omega)];split
   ·exact e4 j (by omega)
   ·split
    ·rfl
    ·exact e4 _ (by omega)
  ·intro j hj
   rw[ah]at hj;have other:∀j',j'<es.length→j'≠i→2≤sz f'.nodes (kd es j')∧Ok f'.nodes h (kd es j') (some (ky es j')) (nxt es j' hi):=fun j' yf av=>by
    obtain⟨dj,JT⟩:=w.ic.kid_live af (aP yf);obtain⟨g1,g2⟩:=fr JT (p.kid_off w.ic af (aP yf)) (fun q'=>av (dU (w.ic.only h1 af fi).2.1 ak yf q')) (e5 j' yf).2;exact⟨by rw[g2];exact(e5 j' yf).1,g1⟩
   rw[ie,gw];by_cases a1:j<i+1
   ·rw[if_pos a1,if_pos a1]
    by_cases e:j=i
    ·subst e;rw[nxi];exact⟨by rw[OY];exact hm,okc⟩
    ·rw[nxs j (by omega)];exact other j (by omega) e
   ·rw[if_neg a1,if_neg a1]
    by_cases a2:j=i+1
    ·rw[if_pos a2,if_pos a2,a2,nxq (i+1) (by omega)]
     exact⟨by rw[Rr];omega,okq⟩
    ·rw[if_neg a2,if_neg a2,nxq j (by omega)];exact other _ (by omega) (by omega)
 ·intro Pu
  unfold sz;rw[nb];simp only[ah];have:=(p.ok w.ok).2 Pu;unfold sz at this;rw[af]at this;simp only at this;omega
 ·have:=aN.down p' nb (i:=i) (by rw[ah];omega) (by rw[ie,if_pos (by omega),Gm,if_neg (Ne.symm AH)];exact h1)
  rw[ie,if_pos (by omega),gw,if_pos (by omega),nxi]at this;exact this
 ·have:=aN.down p' nb (i:=i+1) (by rw[ah];omega) (by rw[ie,if_neg (by omega),if_pos rfl,Gm,if_pos rfl])
  rw[ie,if_neg (by omega),if_pos rfl,gw,if_neg (by omega),if_pos rfl,nxq _ (by omega)]at this;exact this
 ·rcases hr with hr | hr
  ·omega
  ·rcases p.top with⟨_,q',_⟩ | ⟨q',_⟩
   ·unfold sz at hr ⊢;rw[nb];rw[←q',af]at hr;simp only[ah]at *;omega
   ·rw[hP]at q';cases q'
theorem Ok.low(hd:nodes b=some (k,es))(hk:Ok nodes h b lo hi):Ok nodes h b (some (ky es 0)) hi:=by
 have nr:∀{es:List E3},dX es lo hi→dX es (some (ky es 0)) hi:=fun {es} e=>by
  refine⟨e.srt,fun j hj=>?_,e.hi,e.le5⟩;cases j with
  | zero=>exact eA _
  | succ j=>exact eN (e.srt 0 (j+1) (by omega) hj)
 cases h with
 | zero=>obtain⟨es',e1,e2,e3⟩:=hk;rw[hd]at e1;cases e1;exact⟨_,hd,nr e2,e3⟩
 | succ h=>obtain⟨es',e1,e2,e3⟩:=hk;rw[hd]at e1;cases e1;exact⟨_,hd,nr e2,e3⟩
theorem Wk.grow(w:Wk f t H)(h1:cu f (aB f t)=1)(hd:f.nodes (aB f t)=some (k,es)){top:Nat}(hm:2≤m)(g9:m+2≤es.length)
  (h9:2≤q) (mj:q<f.cur.length) (hq:cu f q=0) (Ac:2≤top) (DS:top<f.cur.length) (qv:cu f top=0) (sq:top≠q):
  let f':=growF f t (aB f t) k es m q top (ky es 0) (ky es m)
  Wk f' t (H+1)∧aN f' t (H+1) [] top (H+1) none none∧aB f' t=top∧cD f' t (H+1)∧f'.nodes top=some (2,[(ky es 0,.empty,(aB f t:Int)),(ky es m,.empty,(q:Int))]):=by
 intro f';obtain⟨I1,I2⟩:=w.ic.grow (t:=t) (r:=aB f t) (m:=m) (ky es 0) (ky es m) w.tl rfl hd (by omega) (by omega) h9 mj hq Ac DS qv sq;have dh:f.nodes q=none:=(w.ic.dom.dead q).2 hq;have FJ:f.nodes top=none:=(w.ic.dom.dead top).2 qv;have KK:aB f t≠q:=fun e=>by rw[e,dh]at hd;cases hd
 have ez:aB f t≠top:=fun e=>by rw[e,FJ]at hd;cases hd
 have ho:=w.ic.onlyRoot (aO w.tl) h1;have hr:aB f' t=top:=by
  show((f.roots.set t _).getD t (0,0)).2.toNat=top
  simp[gD,w.tl]
 have FE:∀u,u≠t→aB f' u=aB f u:=fun u hu=>by
  show((f.roots.set t _).getD u (0,0)).2.toNat=_
  unfold aB;simp only[gD,List.getElem?_set,if_neg (Ne.symm hu)]
 have ntop:f'.nodes top=some (2,[(ky es 0,.empty,(aB f t:Int)),(ky es m,.empty,(q:Int))]):=by rw[I2,aD]
 have nq:f'.nodes q=some (k,es.drop m):=by rw[I2,aC _ _ (Ne.symm sq),aD]
 have nr:f'.nodes (aB f t)=some (k,es.take m):=by rw[I2,aC _ _ ez,aC _ _ KK];exact aD _ _ _
 let U:Nat→Prop:=fun x=>(∃d,f.nodes x=some d)∧x≠aB f t
 have lk:∀x d,U x→f.nodes x=some d→∀c∈kids d,U c:=fun x d' _ hx c bo=>
  ⟨w.ic.kid_live hx bo,fun e=>ho.2 x d' hx (by have:c=(f.roots.getD t (0,0)).2.toNat:=e;rw[←this];exact bo)⟩
 have gj:∀x,U x→f'.nodes x=f.nodes x:=fun x ⟨⟨d',hx⟩,h1⟩=>by
  have Bx:x≠q:=fun e=>by rw[e,dh]at hx;cases hx
  have R4:x≠top:=fun e=>by rw[e,FJ]at hx;cases hx
  rw[I2,aC _ _ R4,aC _ _ Bx];exact aC _ _ h1
 have fr:=Ok.frame lk gj;have ui:∀c∈kids (k,es),∀h' lo' ak,Ok f.nodes h' c lo' ak→Ok f'.nodes h' c lo' ak∧sz f'.nodes c=sz f.nodes c:=fun c bo h' lo' ak hk=>by
  have Ap:U c:=⟨w.ic.kid_live hd bo,fun e=>w.ic.not_self hd (e▸bo)⟩;exact⟨fr _ _ _ _ Ap hk,by unfold sz;rw[gj c Ap]⟩
 have okr:Ok f'.nodes H (aB f t) (some (ky es 0)) (some (ky es m)):=by
  have:=Ok.low nr (Ok.cutLow hd w.ok (by omega) (by omega) nr ui)
  rw[eE (by omega)]at this;exact this
 have okq:Ok f'.nodes H q (some (ky es m)) none:=Ok.cutHigh hd w.ok (by omega) nq ui;have hs:Srt es:=by
  obtain⟨d,d1,_,_,d4,_⟩:=w.ok.sz_pos;rw[hd]at d1;cases d1;exact d4
 have LK:sz f'.nodes (aB f t)=m:=by unfold sz;rw[nr];exact len_take' (by omega)
 have Rr:sz f'.nodes q=es.length-m:=by unfold sz;rw[nq];exact List.length_drop
 refine⟨⟨I1,by show t <(f.roots.set t _).length;simpa using w.tl,?_,fun u hu yq=>?_⟩,?_,hr,?_,ntop⟩
 ·rw[hr]
  refine⟨_,ntop,⟨?_,fun _ _=>trivial,fun _ _=>trivial,by simp⟩,by simp,?_,?_⟩
  ·intro i j g8 hj
   simp only[List.length_cons,List.length_nil]at hj;obtain rfl:i=0:=by omega
   obtain rfl:j=1:=by omega
   exact hs 0 m (by omega) (by omega)
  ·intro i hi
   simp only[List.length_cons,List.length_nil]at hi;obtain rfl | rfl:i=0∨i=1:=by omega
   ·rfl
   ·rfl
  ·intro i hi
   simp only[List.length_cons,List.length_nil]at hi;obtain rfl | rfl:i=0∨i=1:=by omega
   ·have e1:kd [(ky es 0,.empty,(aB f t:Int)),(ky es m,.empty,(q:Int))] 0=aB f t:=by simp[kd,ch]
    rw[e1];exact⟨by rw[LK];exact hm,okr⟩
   ·have e1:kd [(ky es 0,.empty,(aB f t:Int)),(ky es m,.empty,(q:Int))] 1=q:=by simp[kd,ch]
    rw[e1];exact⟨by rw[Rr];omega,okq⟩
 ·have hu:u<f.roots.length:=by have:u <(f.roots.set t _).length:=hu;simpa using this
  obtain⟨h,g1,g2⟩:=w.oth u hu yq;have Dw:U (aB f u):=⟨w.ic.root_live (aO hu),mR w.ic w.tl hu yq h1⟩;refine⟨h,by rw[FE u yq];exact fr _ _ _ _ Dw g1,?_⟩;rcases g2 with g2 | g2
  ·exact .inl g2
  ·refine .inr ?_
   unfold sz at g2 ⊢;rw[FE u yq,gj _ Dw];exact g2
 ·have:=aN.here (f:=f') (t:=t) (H:=H+1) (by
   rw[hr];exact(dQ (f:=takeAt (setN f (aB f t) (k,es.take m)) q (k,es.drop m)) (2,[(ky es 0,.empty,(aB f t:Int)),(ky es m,.empty,(q:Int))]) (by simpa [takeAt,setN] using DS) top).trans (if_pos rfl))
  rw[hr]at this;exact this
 ·refine .inr ?_
  rw[hr];unfold sz;rw[ntop];simp
def fC(es:List E3)(key:ByteArray):Bool:=decide (cLt es key<es.length) && (ky es (cLt es key)).toList == key.toList
theorem dG(es:List E3)(key:ByteArray):fC es key=true↔cLt es key<es.length∧ky es (cLt es key)=key:=by
 unfold fC;rw[Bool.and_eq_true,decide_eq_true_eq,beq_iff_eq];exact⟨fun⟨a,b⟩=>⟨a,gQ b⟩,fun⟨a,b⟩=>⟨a,by rw[b]⟩⟩
def putE(es:List E3)(key val:ByteArray):List E3:=
 if fC es key=true then es.set (cLt es key) ((es.getD (cLt es key) e0).1,val,(es.getD (cLt es key) e0).2.2)else insE es (cLt es key) (key,val,0)
theorem zP(es:List E3)(key val:ByteArray):(putE es key val).length=if fC es key=true then es.length else es.length+1:=by
 unfold putE;split
 ·simp
 ·exact iK _ _ _
theorem aEQ(h:dX es lo hi)(h5:es.length<5)(key val:ByteArray)(hl:loR lo key)(hh:hiR hi key):dX (putE es key val) lo hi:=by
 have au:=jS es key;unfold putE;split
 ·rename_i hk
  obtain⟨k1,k2⟩:=(dG es key).1 hk;have gw:∀j,ky (es.set (cLt es key) ((es.getD (cLt es key) e0).1,val,(es.getD (cLt es key) e0).2.2)) j=ky es j:=fun j=>by
   unfold ky;rw[bB _ _ _ _ _ k1];by_cases e:j=cLt es key
   ·rw[if_pos e,e]
   ·rw[if_neg e]
  refine⟨fun i j g8 hj=>?_,fun j hj=>?_,fun j hj=>?_,by simpa using h.le5⟩
  ·rw[gw,gw];exact h.srt i j g8 (by simpa using hj)
  ·rw[gw];exact h.lo j (by simpa using hj)
  ·rw[gw];exact h.hi j (by simpa using hj)
 ·rename_i hk
  have gw:=aCZ (es:=es) au (key,val,0);have lt1:∀j,j<cLt es key→kl (ky es j) key=true:=fun j hj=>(gA h.srt key (by omega)).2 hj;have gt1:∀j,cLt es key≤j→j<es.length→kl key (ky es j)=true:=fun j hj yg=>by
   have n1:∀j,cLt es key≤j→j<es.length→kl (ky es j) key=false:=fun j hj yg=>by
    cases e:kl (ky es j) key with
    | false=>rfl
    | true=>have:=(gA h.srt key yg).1 e;omega
   have n2:kl key (ky es (cLt es key))=true:=by
    rcases jZ (n1 (cLt es key) (nR _) (by omega))with q | q
    ·exact absurd ((dG es key).2 ⟨by omega,q⟩) hk
    ·exact q
   by_cases e:j=cLt es key
   ·rw[e];exact n2
   ·exact jN n2 (h.srt _ _ (by omega) yg)
  refine⟨fun i j g8 hj=>?_,fun j hj=>?_,fun j hj=>?_,by rw[iK];omega⟩
  ·rw[iK]at hj
   rw[gw,gw];by_cases a1:i<cLt es key
   ·rw[if_pos a1]
    by_cases c1:j<cLt es key
    ·rw[if_pos c1];exact h.srt i j g8 (by omega)
    ·rw[if_neg c1]
     by_cases c2:j=cLt es key
     ·rw[if_pos c2];exact lt1 i a1
     ·rw[if_neg c2];exact h.srt i (j-1) (by omega) (by omega)
   ·rw[if_neg a1,if_neg (show ¬j<cLt es key by omega),if_neg (show ¬j=cLt es key by omega)]
    by_cases a2:i=cLt es key
    ·rw[if_pos a2];exact gt1 _ (by omega) (by omega)
    ·rw[if_neg a2];exact h.srt _ _ (by omega) (by omega)
  ·rw[iK]at hj
   rw[gw];split
   ·exact h.lo j (by omega)
   ·split
    ·exact hl
    ·exact h.lo _ (by omega)
  ·rw[iK]at hj
   rw[gw];split
   ·exact h.hi j (by omega)
   ·split
    ·exact hh
    ·exact h.hi _ (by omega)
theorem Wk.leaf(w:Wk f t H)(p:aN f t H P b 0 lo hi)(af:f.nodes b=some (1,es))(hn:dX es' lo hi)(hc:∀i,i<es'.length→(es'.getD i e0).2.2=0)(hz:P≠[]→2≤es'.length):
  Wk (setN f b (1,es')) t H∧(cD f t H→cD (setN f b (1,es')) t H):=by
 have hI:IC (setN f b (1,es')):=w.ic.keys af (by simp[aHG]) fun q=>by simp at q
 have vp:(setN f b (1,es')).nodes b=some (1,es'):=aD _ _ _;have uo:∀x,x≠b→(setN f b (1,es')).nodes x=f.nodes x:=fun x hx=>aC _ _ hx;refine⟨w.step p hI rfl af (fun _=>False) (fun _ q=>q.elim) (fun x d hx uv _=>by rw[uo x uv];exact hx) ⟨es',vp,hn,hc⟩ (fun hP=>by unfold sz;rw[vp];exact hz hP),fun hr=>?_⟩;refine p.rt rfl (fun y hy=>uo y fun e=>?_) (fun h0 hP=>?_) hr
 ·obtain⟨uu,hh⟩:=w.ic.ht
  have:=p.high hh y hy;rw[e]at this;omega
 ·rcases p.top with⟨_,_,q⟩ | ⟨q,_⟩
  ·omega
  ·rw[hP]at q;cases q
def aF(f:fZ):Nat:=((List.range f.cur.length).find? fun b=>decide (2≤b) && (cu f b == 0) && (co f b == 0)).getD 0
theorem aR(h:aF f≠0):2≤aF f∧aF f<f.cur.length∧cu f (aF f)=0∧co f (aF f)=0:=by
 unfold aF at h ⊢;cases e:(List.range f.cur.length).find? fun b=>decide (2≤b) && (cu f b == 0) && (co f b == 0)with
 | none=>rw[e]at h;exact absurd rfl h
 | some q=>
  have h1:=List.find?_some e;have h2:=List.mem_of_find?_eq_some e;simp only[Bool.and_eq_true,decide_eq_true_eq,beq_iff_eq]at h1;simp only[Option.getD_some];exact⟨h1.1.1,by simpa using h2,h1.1.2,h1.2⟩
structure aX(f f':fZ):Prop where
 next:f'.next=f.next
 gen:f'.gen=f.gen
 com:f'.com=f.com
 table:f'.table=f.table
 cur:f'.cur.length=f.cur.length
 ids:f'.roots.map Prod.fst=f.roots.map Prod.fst
theorem aX.refl(f:fZ):aX f f:=⟨rfl,rfl,rfl,rfl,rfl,rfl⟩
theorem aX.trans{k:fZ}(a:aX f g)(b:aX g k):aX f k:=
 ⟨b.next.trans a.next,b.gen.trans a.gen,b.com.trans a.com,b.table.trans a.table,b.cur.trans a.cur,b.ids.trans a.ids⟩
theorem aX.setN(f:fZ)(b:Nat)(d:Nd):aX f (setN f b d):=⟨rfl,rfl,rfl,rfl,rfl,rfl⟩
theorem aX.takeAt(f:fZ)(b:Nat)(d:Nd):aX f (takeAt f b d):=⟨rfl,rfl,rfl,rfl,by simp[Fo.takeAt],rfl⟩
theorem aX.freeB(f:fZ)(b:Nat):aX f (freeB f b):=⟨rfl,rfl,rfl,rfl,by simp[Fo.freeB],rfl⟩
theorem aX.letGo(f:fZ)(b:Nat):aX f (letGo f b):=by
 refine⟨?_,?_,lO f b,?_,gY f b,by rw[dS]⟩<;>(unfold Fo.letGo;split<;>rfl)
theorem aX.setL(f:fZ)(L:Loc)(q:Nat):aX f (setL f L q):=by
 cases L with
 | inr bi=>obtain⟨b,i⟩:=bi;exact aX.setN f b _
 | inl t=>
  refine⟨rfl,rfl,rfl,rfl,rfl,?_⟩;show(f.roots.set t _).map Prod.fst=_
  rw[List.map_set];refine List.ext_getElem? fun j=>?_;rw[List.getElem?_set];split
  ·rename_i h;subst h
   by_cases hl:t<f.roots.length
   ·simp[gD,hl]
   ·simp[hl]
  ·rfl
theorem aX.shadowAt(f:fZ)(L:Loc)(q:Nat):aX f (shadowAt f L q):=((aX.takeAt f q _).trans (aX.setL _ L q)).trans (aX.letGo _ _)
theorem aX.splitF(f:fZ)(p:Nat)(pes:List E3)(a c:Nat)(k:Int)(ces:List E3)(m q:Nat)(key:ByteArray):aX f (splitF f p pes a c k ces m q key):=((aX.setN f _ _).trans (aX.takeAt _ _ _)).trans (aX.setN _ _ _)
theorem aX.growF(f:fZ)(t r:Nat)(k:Int)(es:List E3)(m q top:Nat)(k0 k1:ByteArray):aX f (growF f t r k es m q top k0 k1):=(((aX.setN f _ _).trans (aX.takeAt _ _ _)).trans (aX.takeAt _ _ _)).trans (aX.setL _ _ _)
theorem aX.mergeF(f:fZ)(p c s:Nat)(k:Int)(ces pes:List E3):aX f (mergeF f p c s k ces pes):=((aX.setN f _ _).trans (aX.setN _ _ _)).trans (aX.letGo _ _)
theorem aX.moveF(f:fZ)(p c s:Nat)(k:Int)(ces ses pes:List E3):aX f (moveF f p c s k ces ses pes):=((aX.setN f _ _).trans (aX.setN _ _ _)).trans (aX.setN _ _ _)
theorem aX.fallF(f:fZ)(t r c:Nat):aX f (fallF f t r c):=(aX.freeB f r).trans (aX.setL _ _ _)
theorem aX.len{f':fZ}(h:aX f f'):f'.roots.length=f.roots.length:=by simpa using congrArg List.length h.ids
abbrev own(f:fZ)(b:Nat):Prop:=cu f b=1∧co f b=0
def shadow(f:fZ)(L:Loc):Option (fZ×Nat):=
 if own f (bJ f L)then some (f,bJ f L)else if aF f=0 then none else some (shadowAt f L (aF f),aF f)
def stepDown(f:fZ)(b:Nat)(key:ByteArray):Option (fZ×Nat):=
 match shadow (setN f b (2,lowK (look f b).2 key)) (.ent b (bK (lowK (look f b).2 key) key))with
 | none=>none
 | some (g,c)=>
  if(look g c).2.length=5 then
   if aF g=0 then none else
    some (splitF g b (look g b).2 (bK (lowK (look f b).2 key) key) c (look g c).1 (look g c).2 3 (aF g) (ky (look g c).2 3),if kl key (ky (look g c).2 3)=true then c else aF g)
  else some (g,c)
def putAt:Nat→fZ→Nat→ByteArray→ByteArray→Option (fZ×Bool)
 | 0,f,b,key,val=>some (setN f b (1,putE (look f b).2 key val),fC (look f b).2 key)
 | h+1,f,b,key,val=>match stepDown f b key with
  | none=>none
  | some (g,c)=>putAt h g c key val
def bM(f:fZ)(t r:Nat):Option (fZ×Nat):=
 if aF f=0 then none else
 if aF (takeAt (setN f r ((look f r).1,(look f r).2.take 3)) (aF f) ((look f r).1,(look f r).2.drop 3))=0 then none else
  some (growF f t r (look f r).1 (look f r).2 3 (aF f) (aF (takeAt (setN f r ((look f r).1,(look f r).2.take 3)) (aF f) ((look f r).1,(look f r).2.drop 3))) (ky (look f r).2 0) (ky (look f r).2 3),
   aF (takeAt (setN f r ((look f r).1,(look f r).2.take 3)) (aF f) ((look f r).1,(look f r).2.drop 3)))
def put(f:fZ)(t H:Nat)(key val:ByteArray):Option (fZ×Bool):=
 match shadow f (.root t)with
 | none=>none
 | some (g,r)=>
  if(look g r).2.length=5 then
   match bM g t r with
   | none=>none
   | some (k,top)=>putAt (H+1) k top key val
  else putAt H g r key val
theorem Wk.shadow_ent(w:Wk f t H)(p:aN f t H P b (h+1) lo hi)(af:f.nodes b=some (2,es))(ak:i<es.length)(hs:shadow f (.ent b i)=some (g,c)):
  Wk g t H∧aN g t H P b (h+1) lo hi∧aN g t H (b :: P) c h (some (ky es i)) (nxt es i hi)∧(∃es',g.nodes b=some (2,es')∧es'.length=es.length∧(∀j,ky es' j=ky es j)∧kd es' i=c)∧g.nodes c=f.nodes (kd es i)∧cu g c=1∧co g c=0∧(cD f t H→cD g t H)∧aX f g:=by
 have hg:bJ f (.ent b i)=kd es i:=by simp only[bJ,aE af];rfl
 unfold shadow at hs;rw[hg]at hs;by_cases ho:own f (kd es i)
 ·rw[if_pos ho]at hs;cases hs
  exact⟨w,p,aN.down p af ak ho.1,⟨es,af,rfl,fun _=>rfl,rfl⟩,rfl,ho.1,ho.2,id,aX.refl _⟩
 ·rw[if_neg ho]at hs
  by_cases hl:aF f=0
  ·rw[if_pos hl]at hs;cases hs
  ·rw[if_neg hl]at hs;cases hs
   obtain⟨l1,l2,l3,l4⟩:=aR hl;obtain⟨d,hd⟩:=w.ic.kid_live af (aP ak);obtain⟨a1,a2,a3,a4,a5,a6,a7,a8,a9⟩:=w.shadowEnt p af ak hd l1 l2 l3;refine⟨a1,a2,a3,⟨_,a4,by simp,fun j=>?_,?_⟩,by rw[a5,hd],a6,?_,a9,aX.shadowAt f _ _⟩
   ·simp only[ky];rw[bB _ _ _ _ _ ak]
    by_cases e:j=i
    ·rw[if_pos e,e]
    ·rw[if_neg e]
   ·simp only[kd];rw[bB _ _ _ _ _ ak,if_pos rfl];simp[ch]
   ·unfold co;rw[a7];exact l4
theorem Wk.shadow_root(w:Wk f t H){r:Nat}(hs:shadow f (.root t)=some (g,r)):
  Wk g t H∧aN g t H [] r H none none∧aB g t=r∧g.nodes r=f.nodes (aB f t)∧cu g r=1∧co g r=0∧(cD f t H→cD g t H)∧aX f g:=by
 have hg:bJ f (.root t)=aB f t:=rfl;unfold shadow at hs;rw[hg]at hs;by_cases ho:own f (aB f t)
 ·rw[if_pos ho]at hs;cases hs
  exact⟨w,aN.here ho.1,rfl,rfl,ho.1,ho.2,id,aX.refl _⟩
 ·rw[if_neg ho]at hs
  by_cases hl:aF f=0
  ·rw[if_pos hl]at hs;cases hs
  ·rw[if_neg hl]at hs;cases hs
   obtain⟨l1,l2,l3,l4⟩:=aR hl;obtain⟨d,hd⟩:=w.ic.root_live (aO w.tl);obtain⟨a1,a2,a3,a4,a5,a6,a7⟩:=w.shadowRoot hd l1 l2 l3;have hc:cu (shadowAt f (.root t) (aF f)) (aF f)=1:=by
    have:=(a2.named a1.ic a1.tl (aF f) List.mem_cons_self).1;exact this
   refine⟨a1,a2,a3,a4.trans hd.symm,hc,?_,a7,aX.shadowAt f _ _⟩;unfold co;rw[a5];exact l4
theorem aN.inner(w:Wk f t H)(p:aN f t H P b (h+1) lo hi):∃es,f.nodes b=some (2,es)∧dX es lo hi∧es≠[]:=by
 obtain⟨es,e1,e2,e3,_⟩:=(p.ok w.ok).1;exact⟨es,e1,e2,e3⟩
theorem aN.leaf(w:Wk f t H)(p:aN f t H P b 0 lo hi):∃es,f.nodes b=some (1,es)∧dX es lo hi∧∀i,i<es.length→(es.getD i e0).2.2=0:=(p.ok w.ok).1
theorem Wk.stepDown(w:Wk f t H)(p:aN f t H P b (h+1) lo hi)(hl:loR lo key)(hh:hiR hi key)(h5:sz f.nodes b<5)(hs:stepDown f b key=some (g,c)):
  ∃P' lo' ak,Wk g t H∧aN g t H P' c h lo' ak∧loR lo' key∧hiR ak key∧sz g.nodes c<5∧(cD f t H→cD g t H)∧aX f g:=by
 obtain⟨es,af,so,av⟩:=p.inner w;have hz:es.length<5:=by unfold sz at h5;rw[af]at h5;exact h5
 obtain⟨w1,p1,r1⟩:=w.lowKey p af key hl;unfold Fo.stepDown at hs;rw[aE af]at hs;simp only at hs;generalize hK:lowK es key=es1 at *;have ew:(setN f b (2,es1)).nodes b=some (2,es1):=aD _ _ _;have ee:es1.length=es.length:=by rw[←hK];exact cI es key
 have lw:es1≠[]:=fun e=>av (List.length_eq_zero_iff.1 (by rw[←ee,e];rfl));obtain⟨_,q1,yj,_⟩:=p1.inner w1;rw[ew]at q1;cases q1;generalize hI:bK es1 key=i at *;have fe:i<es1.length:=by rw[←hI];exact eB key lw
 have mw:loR (some (ky es1 i)) key:=by
  rw[←hI];exact aJP yj.srt key (by rw[←hK];exact(vF es key av).1) lw
 have uf:hiR (nxt es1 i hi) key:=by
  by_cases e:i+1<es1.length
  ·rw[cJ _ e];exact aJO yj.srt key e (by omega)
  ·rw[eM _ e];exact hh
 cases al:shadow (setN f b (2,es1)) (.ent b i)with
 | none=>rw[al]at hs;cases hs
 | some gc=>
  obtain⟨g1,c1⟩:=gc;rw[al]at hs;simp only at hs;obtain⟨w2,p2,p3,⟨es2,m1,m2,m3,m4⟩,m5,m6,m7,m8,m9⟩:=w1.shadow_ent p1 ew fe al;have ws:=(aX.setN f b (2,es1)).trans m9;obtain⟨⟨k,ces⟩,hd⟩:=w2.ic.live (x:=c1) (by rw[m6];omega);have au:ces.length≤5:=by
   obtain⟨d',d1,_,d2,_⟩:=((p3.ok w2.ok).1).sz_pos;rw[hd]at d1;cases d1;exact d2
  rw[aE hd]at hs;simp only at hs;by_cases hfull:ces.length=5
  ·rw[if_pos hfull]at hs
   by_cases hlw:aF g1=0
   ·rw[if_pos hlw]at hs;cases hs
   ·rw[if_neg hlw,aE m1]at hs
    simp only at hs
    obtain⟨l1,l2,l3,l4⟩:=aR hlw;have yn:i<es2.length:=by rw[m2];exact fe
    obtain⟨w4,p4,p5,p6,n1,n2,n3,n4⟩:=w2.split p2 m1 (by rw[m2,ee];exact hz) yn (by rw[m4];exact hd) (by rw[m4];exact m6) (m:=3) (by omega) (by omega) l1 l2 l3;rw[m4]at w4 p4 p5 p6 n1 n2 n3 n4;simp only[sJ,Prod.mk.injEq]at hs;obtain⟨rfl,rfl⟩:=hs;have iy:nxt es2 i hi=nxt es1 i hi:=by unfold nxt;rw[m2,m3]
    by_cases mu:kl key (ky ces 3)=true
    ·rw[if_pos mu]
     refine⟨_,_,_,w4,p5,by rw[m3];exact mw,mu,?_,fun hr=>n4 (m8 (r1 hr)),ws.trans (aX.splitF ..)⟩;unfold sz;rw[n2];simp only[List.length_take];omega
    ·rw[if_neg mu]
     refine⟨_,_,_,w4,p6,Bool.eq_false_iff.2 mu,by rw[iy];exact uf,?_,fun hr=>n4 (m8 (r1 hr)),ws.trans (aX.splitF ..)⟩;unfold sz;rw[n3];simp only[List.length_drop];omega
  ·rw[if_neg hfull]at hs
   simp only[sJ,Prod.mk.injEq]at hs;obtain⟨rfl,rfl⟩:=hs;refine⟨_,_,_,w2,p3,mw,uf,?_,fun hr=>m8 (r1 hr),ws⟩;unfold sz;rw[hd];simp only;omega
theorem sU:∀{h:Nat} {f:fZ} (w:Wk f t H) {P:List Nat} {b:Nat} {lo hi:OB} (p:aN f t H P b h lo hi) (hl:loR lo key) (hh:hiR hi key) (h5:sz f.nodes b<5) (hr:cD f t H) {g:fZ} {th:Bool} (hs:putAt h f b key val=some (g,th)),
  Wk g t H∧cD g t H∧aX f g
 | 0,f,w,P,b,lo,hi,p,hl,hh,h5,hr,g,th,hs=>by
  obtain⟨es,af,hn,hc⟩:=p.leaf w;unfold putAt at hs;rw[aE af]at hs;simp only[sJ,Prod.mk.injEq]at hs;obtain⟨rfl,rfl⟩:=hs;have hz:es.length<5:=by unfold sz at h5;rw[af]at h5;exact h5
  have au:=jS es key;obtain⟨a1,a2⟩:=w.leaf p af (aEQ hn hz key val hl hh) (fun i ak=>by
   rw[zP]at ak;unfold putE;split
   ·rename_i hk
    rw[if_pos hk]at ak;rw[bB _ _ _ _ _ ((dG es key).1 hk).1];split
    ·exact hc _ ((dG es key).1 hk).1
    ·exact hc i ak
   ·rename_i hk
    rw[if_neg hk]at ak;rw[jI _ _ _ _ au];split
    ·exact hc i (by omega)
    ·split
     ·rfl
     ·exact hc _ (by omega)) (fun hP=>by
   have:=(p.ok w.ok).2 hP
   unfold sz at this;rw[af]at this;simp only at this;rw[zP];split<;>omega)
  exact⟨a1,a2 hr,aX.setN _ _ _⟩
 | h+1,f,w,P,b,lo,hi,p,hl,hh,h5,hr,g,th,hs=>by
  unfold putAt at hs;cases ml:stepDown f b key with
  | none=>rw[ml]at hs;cases hs
  | some gc=>
   obtain⟨g1,c1⟩:=gc;rw[ml]at hs;obtain⟨P',lo',ak,w1,p1,l1,l2,l3,l4,l5⟩:=w.stepDown p hl hh h5 ml;obtain⟨a1,a2,a3⟩:=sU w1 p1 l1 l2 l3 (l4 hr) hs;exact⟨a1,a2,l5.trans a3⟩
theorem aBJ(w:Wk f t H)(hr:cD f t H){th:Bool}(hs:put f t H key val=some (g,th)):∃H',Wk g t H'∧cD g t H'∧aX f g:=by
 unfold put at hs;cases al:shadow f (.root t)with
 | none=>rw[al]at hs;cases hs
 | some gr=>
  obtain⟨g1,r1⟩:=gr;rw[al]at hs;simp only at hs;obtain⟨w1,p1,a1,a2,a3,a4,a5,a6⟩:=w.shadow_root al;obtain⟨⟨k,es⟩,hd⟩:=w1.ic.live (x:=r1) (by rw[a3];omega);have au:es.length≤5:=by
   obtain⟨d',d1,_,d2,_⟩:=((p1.ok w1.ok).1).sz_pos;rw[hd]at d1;cases d1;exact d2
  rw[aE hd]at hs;simp only at hs;by_cases hfull:es.length=5
  ·rw[if_pos hfull]at hs
   cases bm:bM g1 t r1 with
   | none=>rw[bm]at hs;cases hs
   | some kt=>
    obtain⟨g2,top⟩:=kt;rw[bm]at hs;simp only at hs;unfold bM at bm;rw[aE hd]at bm;simp only at bm;by_cases pf:aF g1=0
    ·rw[if_pos pf]at bm;cases bm
    ·rw[if_neg pf]at bm
     generalize hT:aF (takeAt (setN g1 r1 (k,es.take 3)) (aF g1) (k,es.drop 3))=tp at *;by_cases ee:tp=0
     ·rw[if_pos ee]at bm;cases bm
     ·rw[if_neg ee]at bm
      simp only[sJ,Prod.mk.injEq]at bm;obtain⟨rfl,rfl⟩:=bm;obtain⟨l1,l2,l3,l4⟩:=aR pf;obtain⟨m1,m2,m3,m4⟩:=aR (hT▸ee);rw[hT]at m1 m2 m3;have ot:∀x,cu (takeAt (setN g1 r1 (k,es.take 3)) (aF g1) (k,es.drop 3)) x=if aF g1=x then 1 else cu g1 x:=fun x=>dQ (f:=setN g1 r1 (k,es.take 3)) (k,es.drop 3) l2 x;rw[ot]at m3;have sq:tp≠aF g1:=fun e=>by rw[if_pos e.symm]at m3;omega
      rw[if_neg (Ne.symm sq)]at m3;have m2':tp<g1.cur.length:=by simpa [takeAt,setN] using m2
      subst a1;obtain⟨w2,p2,b1,b2,b3⟩:=w1.grow a3 hd (m:=3) (by omega) (by omega) l1 l2 l3 m1 m2' m3 sq;obtain⟨c1,c2,c3⟩:=sU w2 p2 trivial trivial (by unfold sz;rw[b3];simp) b2 hs;exact⟨_,c1,c2,(a6.trans (aX.growF ..)).trans c3⟩
  ·rw[if_neg hfull]at hs
   obtain⟨c1,c2,c3⟩:=sU w1 p1 trivial trivial (by unfold sz;rw[hd];simp only;omega) (a5 hr) hs;exact⟨_,c1,c2,a6.trans c3⟩
def OkN(nodes:Nat→Option Nd)(h:Nat)(d:Nd)(lo hi:OB):Prop:=match h with
 | 0=>d.1=1∧dX d.2 lo hi∧∀i,i<d.2.length→(d.2.getD i e0).2.2=0
 | h+1=>d.1=2∧dX d.2 lo hi∧d.2≠[]∧(∀i,i<d.2.length→(d.2.getD i e0).2.1=ByteArray.empty)∧
   ∀i,i<d.2.length→2≤sz nodes (kd d.2 i)∧Ok nodes h (kd d.2 i) (some (ky d.2 i)) (nxt d.2 i hi)
theorem dK(hd:nodes b=some d):Ok nodes h b lo hi↔OkN nodes h d lo hi:=by
 obtain⟨k,es⟩:=d;cases h with
 | zero=>
  constructor
  ·rintro⟨es',e1,e2⟩;rw[hd]at e1;cases e1;exact⟨rfl,e2⟩
  ·rintro⟨e1,e2⟩;simp only at e1;subst e1;exact⟨es,hd,e2⟩
 | succ h=>
  constructor
  ·rintro⟨es',e1,e2⟩;rw[hd]at e1;cases e1;exact⟨rfl,e2⟩
  ·rintro⟨e1,e2⟩;simp only at e1;subst e1;exact⟨es,hd,e2⟩
theorem OkN.node(k:OkN nodes h d lo hi):dX d.2 lo hi:=by
 cases h with
 | zero=>exact k.2.1
 | succ h=>exact k.2.1
theorem OkN.kids(k:OkN nodes h d lo hi)(hf:∀c∈kids d,∀h' lo' ak,Ok nodes h' c lo' ak→Ok nodes' h' c lo' ak∧sz nodes' c=sz nodes c):OkN nodes' h d lo hi:=by
 cases h with
 | zero=>exact k
 | succ h=>
  obtain⟨e1,e2,e3,e4,e5⟩:=k;refine⟨e1,e2,e3,e4,fun j hj=>?_⟩;obtain⟨kk,es⟩:=d;simp only at e1;subst e1;obtain⟨g1,g2⟩:=hf _ (aP hj) _ _ _ (e5 j hj).2;exact⟨by rw[g2];exact(e5 j hj).1,g1⟩
theorem OkN.join{a b:List E3}{m m':ByteArray}(ka:OkN nodes h (k,a) lo (some m))(kb:OkN nodes h (k,b) (some m') hi)(hm:kl m' m=false)(ha:a≠[])(hb:b≠[])(h5:a.length+b.length≤5):OkN nodes h (k,a++b) lo hi:=by
 have na:=ka.node;have nb:=kb.node;simp only at na nb;have gz:0<b.length:=List.length_pos_iff.2 hb;have gw:∀j,ky (a++b) j=if j<a.length then ky a j else ky b (j-a.length):=fun j=>by unfold ky;rw[cM];split<;>rfl
 have ie:∀j,kd (a++b) j=if j<a.length then kd a j else kd b (j-a.length):=fun j=>by unfold kd;rw[cM];split<;>rfl
 have EX:∀j,j<b.length→kl (ky b j) m=false:=fun j hj=>fF hm (nb.lo j hj);have pn:∀i j,i<a.length→j<b.length→kl (ky a i) (ky b j)=true:=fun i j hi hj=>kX (na.hi i hi) (EX j hj);have nr:dX (a++b) lo hi:=by
  refine⟨fun i j g8 hj=>?_,fun j hj=>?_,fun j hj=>?_,by rw[lP];exact h5⟩
  ·rw[lP]at hj
   rw[gw,gw];by_cases i1:i<a.length
   ·rw[if_pos i1]
    by_cases j1:j<a.length
    ·rw[if_pos j1];exact na.srt i j g8 j1
    ·rw[if_neg j1];exact pn _ _ i1 (by omega)
   ·rw[if_neg i1,if_neg (by omega)];exact nb.srt _ _ (by omega) (by omega)
  ·rw[lP]at hj
   rw[gw];split
   ·exact na.lo j (by assumption)
   ·cases lo with
    | none=>trivial
    | some l=>
     have OM:0<a.length:=List.length_pos_iff.2 ha;exact fF (na.lo 0 OM) (eN (pn 0 _ OM (by omega)))
  ·rw[lP]at hj
   rw[gw];split
   ·rename_i j1;exact rO (pn j 0 j1 gz) (nb.hi 0 gz)
   ·exact nb.hi _ (by omega)
 cases h with
 | zero=>
  refine⟨ka.1,nr,fun j hj=>?_⟩;simp only[lP]at hj;simp only;rw[cM];split
  ·exact ka.2.2 j (by assumption)
  ·exact kb.2.2 _ (by simp only;omega)
 | succ h=>
  obtain⟨e1,_,_,e4,e5⟩:=ka;obtain⟨_,_,_,f4,f5⟩:=kb;simp only at e1 e4 e5 f4 f5;refine⟨e1,nr,by simp[ha],fun j hj=>?_,fun j hj=>?_⟩
  ·simp only[lP]at hj
   simp only;rw[cM];split
   ·exact e4 j (by assumption)
   ·exact f4 _ (by omega)
  ·simp only[lP]at hj
   simp only
   rw[ie,gw];by_cases j1:j<a.length
   ·rw[if_pos j1,if_pos j1]
    refine⟨(e5 j j1).1,?_⟩;by_cases j2:j+1<a.length
    ·rw[cJ _ (by rw[lP];omega),gw,if_pos j2]
     have:=(e5 j j1).2
     rw[cJ _ j2]at this;exact this
    ·have h':=(e5 j j1).2
     rw[eM _ j2]at h';rw[cJ _ (by rw[lP];omega),gw,if_neg j2,show j+1-a.length=0 from by omega];exact h'.wide (fun _ q=>q) (fun x hx=>by have bq:kl x m=true:=hx;exact kX bq (EX 0 gz))
   ·rw[if_neg j1,if_neg j1]
    refine⟨(f5 _ (by omega)).1,?_⟩;have:nxt (a++b) j hi=nxt b (j-a.length) hi:=by
     unfold nxt;rw[lP];by_cases j2:j+1<a.length+b.length
     ·rw[if_pos j2,if_pos (by omega),gw,if_neg (by omega),show j+1-a.length=j-a.length+1 from by omega]
     ·rw[if_neg j2,if_neg (by omega)]
    rw[this];exact(f5 _ (by omega)).2
theorem OkN.take(hk:OkN nodes h (k,es) lo hi)(hm:0<m)(g9:m<es.length):OkN nodes h (k,es.take m) lo (some (ky es m)):=by
 cases h with
 | zero=>
  obtain⟨e1,e,e3⟩:=hk;simp only at e1 e e3;refine⟨e1,⟨tF e.srt m (by omega),fun j hj=>?_,fun j hj=>?_,?_⟩,fun j hj=>?_⟩
  ·simp only at hj ⊢;rw[len_take' (by omega)]at hj;rw[eE hj];exact e.lo j (by omega)
  ·simp only at hj ⊢;rw[len_take' (by omega)]at hj;rw[eE hj];exact e.srt j m hj g9
  ·simp only;rw[len_take' (by omega)];have:=e.le5;omega
  ·simp only at hj ⊢;rw[len_take' (by omega)]at hj;rw[fS _ _ _ hj];exact e3 j (by omega)
 | succ h=>
  obtain⟨e1,e,e3,e4,e5⟩:=hk;simp only at e1 e e3 e4 e5;refine⟨e1,⟨tF e.srt m (by omega),fun j hj=>?_,fun j hj=>?_,?_⟩,oH g9 hm,fun j hj=>?_,fun j hj=>?_⟩
  ·simp only at hj ⊢;rw[len_take' (by omega)]at hj;rw[eE hj];exact e.lo j (by omega)
  ·simp only at hj ⊢;rw[len_take' (by omega)]at hj;rw[eE hj];exact e.srt j m hj g9
  ·simp only;rw[len_take' (by omega)];have:=e.le5;omega
  ·simp only at hj ⊢;rw[len_take' (by omega)]at hj;rw[fS _ _ _ hj];exact e4 j (by omega)
  ·simp only at hj ⊢;rw[len_take' (by omega)]at hj
   rw[aCX hj,eE hj];refine⟨(e5 j (by omega)).1,?_⟩;have:nxt (es.take m) j (some (ky es m))=nxt es j hi:=by
    rw[cJ (es:=es) hi (by omega)];by_cases q:j+1<m
    ·rw[cJ _ (by rw[len_take' (by omega)];exact q),eE q]
    ·rw[eM _ (by rw[len_take' (by omega)];exact q),show j+1=m from by omega]
   rw[this];exact(e5 j (by omega)).2
theorem OkN.drop(hk:OkN nodes h (k,es) lo hi)(g9:m<es.length):OkN nodes h (k,es.drop m) (some (ky es m)) hi:=by
 have nr:dX es lo hi→dX (es.drop m) (some (ky es m)) hi:=fun e=>by
  refine⟨aAA e.srt m,fun j hj=>?_,fun j hj=>?_,?_⟩
  ·rw[List.length_drop]at hj;rw[gF]
   by_cases e0:j=0
   ·subst e0;exact eA _
   ·exact eN (e.srt m (m+j) (by omega) (by omega))
  ·rw[List.length_drop]at hj;rw[gF];exact e.hi _ (by omega)
  ·rw[List.length_drop];have:=e.le5;omega
 cases h with
 | zero=>
  obtain⟨e1,e,e3⟩:=hk;simp only at e1 e e3;refine⟨e1,nr e,fun j hj=>?_⟩;simp only at hj ⊢;rw[List.length_drop]at hj;rw[eW];exact e3 _ (by omega)
 | succ h=>
  obtain⟨e1,e,e3,e4,e5⟩:=hk;simp only at e1 e e3 e4 e5;refine⟨e1,nr e,nE g9,fun j hj=>?_,fun j hj=>?_⟩
  ·simp only at hj ⊢;rw[List.length_drop]at hj;rw[eW];exact e4 _ (by omega)
  ·simp only at hj ⊢;rw[List.length_drop]at hj
   rw[aCW,gF];refine⟨(e5 _ (by omega)).1,?_⟩;have:nxt (es.drop m) j hi=nxt es (m+j) hi:=by
    unfold nxt;rw[List.length_drop,gF];by_cases q:m+j+1<es.length
    ·rw[if_pos (by omega),if_pos q,show m+(j+1)=m+j+1 from by omega]
    ·rw[if_neg (by omega),if_neg q]
   rw[this];exact(e5 _ (by omega)).2
def Mem(nodes:Nat→Option Nd):Nat→Nat→ByteArray→Prop
 | 0,b,key=>∃es,nodes b=some (1,es)∧∃j,j<es.length∧ky es j=key
 | h+1,b,key=>∃es,nodes b=some (2,es)∧∃j,j<es.length∧Mem nodes h (kd es j) key
theorem Mem.frame{U:Nat→Prop}(hU:∀x d,U x→nodes x=some d→∀c∈Fo.kids d,U c)(he:∀x,U x→nodes' x=nodes x):
  ∀h b,U b→Mem nodes h b key→Mem nodes' h b key
 | 0,b,hb,h=>by
  obtain⟨es,h1,h2⟩:=h;exact⟨es,(he b hb).trans h1,h2⟩
 | h+1,b,hb,hk=>by
  obtain⟨es,h1,j,hj,h2⟩:=hk;exact⟨es,(he b hb).trans h1,j,hj,Mem.frame hU he h _ (hU b _ hb h1 _ (aP hj)) h2⟩
theorem Mem.bounds:∀{h b:Nat} {lo hi:OB},Ok nodes h b lo hi→Mem nodes h b key→loR lo key∧hiR hi key
 | 0,b,lo,hi,hk,hm=>by
  obtain⟨es,e1,e2,_⟩:=hk;obtain⟨es',f1,j,hj,rfl⟩:=hm;rw[e1]at f1;cases f1;exact⟨e2.lo j hj,e2.hi j hj⟩
 | h+1,b,lo,hi,hk,hm=>by
  obtain⟨es,e1,e2,_,_,e5⟩:=hk;obtain⟨es',f1,j,hj,f2⟩:=hm;rw[e1]at f1;cases f1;obtain⟨g1,g2⟩:=Mem.bounds (e5 j hj).2 f2;constructor
  ·cases lo with
   | none=>trivial
   | some l=>exact fF (e2.lo j hj) g1
  ·by_cases q:j+1<es.length
   ·rw[cJ _ q]at g2;exact rO g2 (e2.hi _ q)
   ·rw[eM _ q]at g2;exact g2
theorem Mem.at(af:nodes b=some (2,es))(hk:Ok nodes (h+1) b lo hi)(hm:Mem nodes (h+1) b key):Mem nodes h (kd es (bK es key)) key:=by
 obtain⟨es',e1,e2,_,_,e5⟩:=hk;rw[af]at e1;cases e1;obtain⟨es',f1,j,hj,f2⟩:=hm;rw[af]at f1;cases f1;obtain⟨g1,g2⟩:=Mem.bounds (e5 j hj).2 f2;have:bK es key=j:=aCM e2.srt key hj g1 fun q=>by rw[cJ _ q]at g2;exact g2
 rw[this];exact f2
theorem aN.cl(h:IC f)(ht:t<f.roots.length){hb:Nat}(p:aN f t H P b hb lo hi)(af:f.nodes b=some (k,es))
  {nodes':Nat→Option Nd} (C:Nat→Prop) (hC:∀x,C x→cu f x=1∧x∈kids (k,es)) (hN:∀x d,f.nodes x=some d→x≠b→¬C x→nodes' x=some d):
  ∃U:Nat→Prop,(∀x d,U x→f.nodes x=some d→∀c∈kids d,U c)∧(∀x,U x→nodes' x=f.nodes x)∧∀x d,f.nodes x=some d→x∉b :: P→¬C x→U x:=by
 have J9:=p.named h ht;refine⟨fun x=>(∃d,f.nodes x=some d)∧x∉b :: P∧¬C x,fun x d ⟨_,pt,Hl⟩ hx c hc=>?_,fun x ⟨⟨d,hd⟩,pt,Hl⟩=>?_,fun x d hx h1 h2=>⟨⟨d,hx⟩,h1,h2⟩⟩
 ·refine⟨h.kid_live hx hc,fun hm=>?_,fun kz=>?_⟩
  ·exact pt (List.mem_cons_of_mem _ ((J9 c hm).2.1 x d hx hc))
  ·have:=(h.only (hC c kz).1 af (hC c kz).2).2.2 x d hx hc
   exact pt (this▸List.mem_cons_self)
 ·rw[hd];exact hN x d hd (fun e=>pt (e▸List.mem_cons_self)) Hl
def kN(nodes:Nat→Option Nd)(h:Nat)(d:Nd)(key:ByteArray):Prop:=match h with
 | 0=>d.1=1∧∃e∈d.2,e.1=key
 | h+1=>d.1=2∧∃e∈d.2,Mem nodes h (ch e) key
theorem bO(hd:nodes b=some d):Mem nodes h b key↔kN nodes h d key:=by
 obtain⟨k,es⟩:=d;cases h with
 | zero=>
  constructor
  ·rintro⟨es',e1,j,hj,e2⟩;rw[hd]at e1;cases e1;exact⟨rfl,_,nJ hj,e2⟩
  ·rintro⟨e1,e,he,e2⟩;simp only at e1 he;subst e1
   obtain⟨j,hj,rfl⟩:=cN he;exact⟨es,hd,j,hj,e2⟩
 | succ h=>
  constructor
  ·rintro⟨es',e1,j,hj,e2⟩;rw[hd]at e1;cases e1;exact⟨rfl,_,nJ hj,e2⟩
  ·rintro⟨e1,e,he,e2⟩;simp only at e1 he;subst e1
   obtain⟨j,hj,rfl⟩:=cN he;exact⟨es,hd,j,hj,e2⟩
theorem kN.more(hm:kN nodes h (k,es) key)(hs:∀e∈es,e∈es')(hf:∀c∈kids (k,es),∀h',Mem nodes h' c key→Mem nodes' h' c key):kN nodes' h (k,es') key:=by
 cases h with
 | zero=>obtain⟨e1,e,he,e2⟩:=hm;exact⟨e1,e,hs e he,e2⟩
 | succ h=>
  obtain⟨e1,e,he,e2⟩:=hm;simp only at e1 he;subst e1;exact⟨rfl,e,hs e he,hf _ (aV.2 ⟨e,he,rfl⟩) _ e2⟩
theorem aDC(hd:nodes b=some (2,es))(hn:dX es lo hi)(h0:es≠[])(hv:∀i,i<es.length→(es.getD i e0).2.1=ByteArray.empty)(hk:∀i,i<es.length→2≤sz nodes (kd es i)∧Ok nodes h (kd es i) (some (ky es i)) (nxt es i hi)):Ok nodes (h+1) b lo hi:=⟨es,hd,hn,h0,hv,hk⟩
theorem Wk.move(w:Wk f t H)(p:aN f t H P b (h+1) lo hi)(af:f.nodes b=some (2,es)){a:Nat}(ha:a+1<es.length){les' res':List E3}{mid:ByteArray}
  (hl:f.nodes (kd es a)=some (k,les)) (hr:f.nodes (kd es (a+1))=some (k,res)) (cl:cu f (kd es a)=1) (cr:cu f (kd es (a+1))=1)
  (okl:OkN f.nodes h (k,les') (some (ky es a)) (some mid)) (okr:OkN f.nodes h (k,res') (some mid) (nxt es (a+1) hi)) (zl:2≤les'.length) (zr:2≤res'.length)
  (ay:∀x,(kids (k,les')).count x+(kids (k,res')).count x=(kids (k,les)).count x+(kids (k,res)).count x) (jm:∀e,e∈les'∨e∈res'→e∈les∨e∈res):
  let es':=es.set (a+1) (mid,(es.getD (a+1) e0).2)
  let f':=moveF f b (kd es a) (kd es (a+1)) k les' res' es'
  Wk f' t H∧(cD f t H→cD f' t H)∧f'.nodes b=some (2,es')∧aN f' t H P b (h+1) lo hi∧aN f' t H (b :: P) (kd es a) h (some (ky es a)) (some mid)∧aN f' t H (b :: P) (kd es (a+1)) h (some mid) (nxt es (a+1) hi)∧
   f'.nodes (kd es a)=some (k,les')∧f'.nodes (kd es (a+1))=some (k,res')∧(∀key c,c∈kids (k,les)∨c∈kids (k,res)→∀h',Mem f.nodes h' c key→Mem f'.nodes h' c key):=by
 intro es' f';have gx:=aP (show a<es.length by omega);have Hd:=aP ha;have Tx:kd es a≠kd es (a+1):=fun e=>by
  have:=dU (w.ic.only cl af gx).2.1 (by omega) ha e.symm;omega
 have ah:es'.length=es.length:=by simp[es']
 have bw:∀j,es'.getD j e0=if j=a+1 then(mid,(es.getD (a+1) e0).2)else es.getD j e0:=fun j=>bB _ _ _ _ _ ha;have gw:∀j,ky es' j=if j=a+1 then mid else ky es j:=fun j=>by unfold ky;rw[bw];split<;>rfl
 have ie:∀j,kd es' j=kd es j:=fun j=>by
  unfold kd;rw[bw];split
  ·rename_i e;rw[e];rfl
  ·rfl
 have AO:kids (2,es')=kids (2,es):=by
  rw[gK,gK];refine List.ext_getElem? fun j=>?_;simp only[List.getElem?_map,es',List.getElem?_set];split
  ·rename_i e;subst e
   rw[gD,gE ha];rfl
  ·rfl
 obtain⟨es0,q1,e2,e3,e4,e5⟩:=(p.ok w.ok).1;rw[af]at q1;cases q1;obtain⟨I1,I2⟩:=w.ic.move (pes':=es') (ces':=les') (ses':=res') af gx Hd Tx hl hr AO (fun e he=>by
  obtain⟨j,hj,rfl⟩:=cN he;rw[bw];split
  ·exact w.ic.child_pos af ha
  ·exact w.ic.child_pos af (by omega)) ay jm ⟨by intro e;rw[e]at zl;simp at zl,by intro e;rw[e]at zr;simp at zr⟩
 have RG:kd es a≠b:=fun e=>w.ic.not_self af (by rw[←e];exact gx);have fl:kd es (a+1)≠b:=fun e=>w.ic.not_self af (by rw[←e];exact Hd);have nb:f'.nodes b=some (2,es'):=by rw[I2,aD]
 have nr:f'.nodes (kd es (a+1))=some (k,res'):=by rw[I2,aC _ _ fl,aD]
 have nl:f'.nodes (kd es a)=some (k,les'):=by rw[I2,aC _ _ RG,aC _ _ Tx,aD]
 have nx:∀x,x≠b→x≠kd es a→x≠kd es (a+1)→f'.nodes x=f.nodes x:=fun x h1 h2 h3=>by rw[I2,aC _ _ h1,aC _ _ h3,aC _ _ h2]
 have Gb:∀x,(x=kd es a∨x=kd es (a+1))→cu f x=1∧x∈kids (2,es):=fun x q=>by
  rcases q with q | q
  ·rw[q];exact⟨cl,gx⟩
  ·rw[q];exact⟨cr,Hd⟩
 have Gf:∀x d,f.nodes x=some d→x≠b→¬(x=kd es a∨x=kd es (a+1))→f'.nodes x=some d:=fun x d hx uv Ae=>by
  rw[nx x uv (fun e=>Ae (.inl e)) (fun e=>Ae (.inr e))];exact hx
 obtain⟨U,lk,gj,hU⟩:=p.cl w.ic w.tl af (fun x=>x=kd es a∨x=kd es (a+1)) Gb Gf;have Ap:∀c,c∈kids (k,les)∨c∈kids (k,res)→U c:=fun c hc=>by
  obtain⟨uu,hh⟩:=w.ic.ht;have key:∀{s:Nat} {ses:List E3},s∈kids (2,es)→f.nodes s=some (k,ses)→c∈kids (k,ses)→U c:=fun {s ses} hs hd hc=>by
   obtain⟨dc,i9⟩:=w.ic.kid_live hd hc;obtain⟨o1,o2⟩:=p.kid2_off w.ic af hs hd hc;exact hU c dc i9 o1 fun q=>by
    rcases q with q | q
    ·exact o2 (q▸gx)
    ·exact o2 (q▸Hd)
  rcases hc with hc | hc
  ·exact key gx hl hc
  ·exact key Hd hr hc
 have frK:∀{ds:List E3},(∀e∈ds,e∈les∨e∈res)→∀c∈kids (k,ds),∀h' lo' ak,Ok f.nodes h' c lo' ak→Ok f'.nodes h' c lo' ak∧sz f'.nodes c=sz f.nodes c:=fun {ds} iu c hc h' lo' ak hk=>by
  obtain⟨rfl,e,he,rfl⟩:=cO hc;have:U (ch e):=Ap _ ((iu e he).imp (fun q=>aV.2 ⟨e,q,rfl⟩) fun q=>aV.2 ⟨e,q,rfl⟩);exact⟨Ok.frame lk gj _ _ _ _ this hk,by unfold sz;rw[gj _ this]⟩
 have okl':Ok f'.nodes h (kd es a) (some (ky es a)) (some mid):=(dK nl).2 (okl.kids (frK fun e he=>jm e (.inl he)));have okr':Ok f'.nodes h (kd es (a+1)) (some mid) (nxt es (a+1) hi):=(dK nr).2 (okr.kids (frK fun e he=>jm e (.inr he)));have Jz:kl (ky es a) mid=true:=by
  have:=okl.node.lo 0 (by simp only;omega)
  have h2:=okl.node.hi 0 (by simp only;omega);exact kW this h2
 have F0:hiR (nxt es (a+1) hi) mid:=by
  have h1:=okr.node.lo 0 (by simp only;omega);have h2:=okr.node.hi 0 (by simp only;omega);cases hx:nxt es (a+1) hi with
  | none=>trivial
  | some u=>rw[hx]at h2;exact kW h1 h2
 have K9:∀j,a+1<j→j<es.length→kl mid (ky es j)=true:=fun j hj yg=>by
  have:kl mid (ky es (a+1+1))=true:=by rw[cJ _ (by omega)]at F0;exact F0
  by_cases e:j=a+1+1
  ·rw[e];exact this
  ·exact jN this (e2.srt _ _ (by omega) yg)
 have iy:∀j,j≠a→nxt es' j hi=nxt es j hi:=fun j hj=>by
  unfold nxt;rw[ah,gw,if_neg (show ¬j+1=a+1 by omega)]
 have M7:nxt es' a hi=some mid:=by rw[cJ _ (by rw[ah];exact ha),gw,if_pos rfl]
 have av:∀y∈P,y≠b:=fun y hy e=>by
  obtain⟨uu,hh⟩:=w.ic.ht;have:=p.high hh y hy;rw[e]at this;omega
 have CI:∀y∈P,f'.nodes y=f.nodes y:=fun y hy=>nx y (av y hy) (fun e=>p.kid_off w.ic af gx (e▸List.mem_cons_of_mem _ hy)) (fun e=>p.kid_off w.ic af Hd (e▸List.mem_cons_of_mem _ hy));have p':aN f' t H P b (h+1) lo hi:=p.mono rfl (fun _ _=>rfl) CI;have kf:Ok f'.nodes (h+1) b lo hi:=by
  refine aDC nb ⟨fun i j g8 hj=>?_,fun j hj=>?_,fun j hj=>?_,by rw[ah];exact e2.le5⟩ (fun e=>e3 (List.length_eq_zero_iff.1 (by rw[←ah,e];rfl))) (fun j hj=>?_) fun j hj=>?_
  ·rw[ah]at hj
   rw[gw,gw];by_cases i1:i=a+1
   ·rw[if_pos i1,if_neg (by omega)];exact K9 j (by omega) hj
   ·rw[if_neg i1]
    by_cases j1:j=a+1
    ·rw[if_pos j1]
     by_cases e:i=a
     ·rw[e];exact Jz
     ·exact jN (e2.srt i a (by omega) (by omega)) Jz
    ·rw[if_neg j1];exact e2.srt i j g8 hj
  ·rw[ah]at hj
   rw[gw];split
   ·exact aHM Jz (e2.lo a (by omega))
   ·exact e2.lo j hj
  ·rw[ah]at hj
   rw[gw];split
   ·by_cases e:a+1+1<es.length
    ·exact rO (K9 _ (by omega) e) (e2.hi _ e)
    ·rw[eM _ e]at F0;exact F0
   ·exact e2.hi j hj
  ·rw[ah]at hj
   rw[bw];split
   ·exact e4 _ ha
   ·exact e4 j hj
  ·rw[ah]at hj
   rw[ie,gw];by_cases j1:j=a+1
   ·rw[if_pos j1,j1,iy _ (by omega)]
    exact⟨by unfold sz;rw[nr];exact zr,okr'⟩
   ·rw[if_neg j1]
    by_cases j2:j=a
    ·rw[j2,M7];exact⟨by unfold sz;rw[nl];exact zl,okl'⟩
    ·rw[iy j j2]
     obtain⟨dj,JT⟩:=w.ic.kid_live af (aP hj);have:U (kd es j):=hU _ dj JT (p.kid_off w.ic af (aP hj)) fun q=>by
      rcases q with q | q
      ·exact j2 (dU (w.ic.only cl af gx).2.1 (by omega) hj q)
      ·exact j1 (dU (w.ic.only cr af Hd).2.1 ha hj q)
     exact⟨by unfold sz;rw[gj _ this];exact(e5 j hj).1,Ok.frame lk gj _ _ _ _ this (e5 j hj).2⟩
 have bd:sz f'.nodes b=sz f.nodes b:=by unfold sz;rw[nb,af];exact ah
 refine⟨w.step p I1 rfl af _ Gb Gf kf (fun hP=>by rw[bd];exact(p.ok w.ok).2 hP),fun ez=>p.rt rfl CI (fun h0 hP=>?_) ez,nb,p',?_,?_,nl,nr,fun key c hc h' hm=>Mem.frame lk gj _ _ (Ap c hc) hm⟩
 ·rw[bd]
  rcases ez with q | q
  ·omega
  ·rcases p.top with⟨_,q',_⟩ | ⟨q',_⟩
   ·rw[q'];exact q
   ·rw[hP]at q';cases q'
 ·have:=aN.down p' nb (i:=a) (by rw[ah];omega) (by rw[ie];exact cl)
  rw[ie,gw,if_neg (by omega),M7]at this;exact this
 ·have:=aN.down p' nb (i:=a+1) (by rw[ah];omega) (by rw[ie];exact cr)
  rw[ie,gw,if_pos rfl,iy _ (by omega)]at this;exact this
theorem Wk.merge(w:Wk f t H)(p:aN f t H P b (h+1) lo hi)(af:f.nodes b=some (2,es)){a:Nat}(ha:a+1<es.length){ses:List E3}{s:Nat}
  (iN:(c=kd es a∧s=kd es (a+1)∧ces=les∧ses=res)∨(c=kd es (a+1)∧s=kd es a∧ces=res∧ses=les)) (hc:f.nodes c=some (k,ces)) (hs:f.nodes s=some (k,ses)) (cc:cu f c=1)
  (h5:les.length+res.length≤5) (ah:es'.length+1=es.length) (gw:∀j,ky es' j=if j≤a then ky es j else ky es (j+1)) (ie:∀j,kd es' j=if j<a then kd es j else if j=a then c else kd es (j+1))
  (hv:∀j,j<es'.length→(es'.getD j e0).2.1=ByteArray.empty) (QW:∀x,(kids (2,es')).count x+one s x=(kids (2,es)).count x) (cg:∀e∈es',0≤e.2.2) (h3:P≠[]→3≤es.length):
  let f':=mergeF f b c s k (les++res) es'
  Wk f' t H∧(3≤es.length→cD f t H→cD f' t H)∧f'.nodes b=some (2,es')∧aN f' t H P b (h+1) lo hi∧aN f' t H (b :: P) c h (some (ky es a)) (nxt es (a+1) hi)∧f'.nodes c=some (k,les++res)∧
   (∀key x,x∈kids (k,ces)→∀h',Mem f.nodes h' x key→Mem f'.nodes h' x key):=by
 intro f';have gx:=aP (show a<es.length by omega);have Hd:=aP ha;have fi:c∈kids (2,es):=by rcases iN with⟨q,_⟩ | ⟨q,_⟩<;>(rw[q];assumption)
 have tj:s∈kids (2,es):=by rcases iN with⟨_,q,_⟩ | ⟨_,q,_⟩<;>(rw[q];assumption)
 have Fu:c≠s:=fun e=>by
  rcases iN with⟨q1,q2,_⟩ | ⟨q1,q2,_⟩
  ·have e':kd es (a+1)=kd es a:=by rw[←q1,←q2,e]
   have:=dU (by rw[←q1];exact(w.ic.only cc af fi).2.1) (show a<es.length by omega) ha e';omega
  ·have e':kd es a=kd es (a+1):=by rw[←q1,←q2,e]
   have:=dU (by rw[←q1];exact(w.ic.only cc af fi).2.1) ha (show a<es.length by omega) e';omega
 have Me:es'≠[]:=fun e=>by rw[e]at ah;simp at ah;omega
 obtain⟨es0,q1,e2,e3,e4,e5⟩:=(p.ok w.ok).1;rw[af]at q1;cases q1;have okl:OkN f.nodes h (k,les) (some (ky es a)) (some (ky es (a+1)))∧2≤les.length:=by
  have h1:=e5 a (by omega);rw[cJ _ ha]at h1;rcases iN with⟨q1,q2,q3,q4⟩ | ⟨q1,q2,q3,q4⟩
  ·rw[←q1]at h1;rw[←q3];exact⟨(dK hc).1 h1.2,by have:=h1.1;unfold sz at this;rw[hc]at this;exact this⟩
  ·rw[←q2]at h1;rw[←q4];exact⟨(dK hs).1 h1.2,by have:=h1.1;unfold sz at this;rw[hs]at this;exact this⟩
 have okr:OkN f.nodes h (k,res) (some (ky es (a+1))) (nxt es (a+1) hi)∧2≤res.length:=by
  have h1:=e5 (a+1) ha;rcases iN with⟨q1,q2,q3,q4⟩ | ⟨q1,q2,q3,q4⟩
  ·rw[←q2]at h1;rw[←q4];exact⟨(dK hs).1 h1.2,by have:=h1.1;unfold sz at this;rw[hs]at this;exact this⟩
  ·rw[←q1]at h1;rw[←q3];exact⟨(dK hc).1 h1.2,by have:=h1.1;unfold sz at this;rw[hc]at this;exact this⟩
 have pf:les≠[]:=fun e=>by rw[e]at okl;have:=okl.2;simp at this
 have KF:res≠[]:=fun e=>by rw[e]at okr;have:=okr.2;simp at this
 have okj:OkN f.nodes h (k,les++res) (some (ky es a)) (nxt es (a+1) hi):=okl.1.join okr.1 (eA _) pf KF h5;have jw:∀e,e∈les++res→e∈ces∨e∈ses:=fun e he=>by
  rcases iN with⟨_,_,q3,q4⟩ | ⟨_,_,q3,q4⟩
  ·rw[q3,q4];exact List.mem_append.1 he
  ·rw[q3,q4];exact(List.mem_append.1 he).symm
 obtain⟨I1,I2⟩:=w.ic.merge (pes':=es') (ces':=les++res) af fi tj Fu hc hs QW cg Me (fun x=>by
  rw[nO,List.count_append];rcases iN with⟨_,_,q3,q4⟩ | ⟨_,_,q3,q4⟩
  ·rw[q3,q4]
  ·rw[q3,q4];omega) jw (by simp[pf])
 have sc:c≠b:=fun e=>w.ic.not_self af (by rw[←e];exact fi);have UA:s≠b:=fun e=>w.ic.not_self af (by rw[←e];exact tj);have nb:f'.nodes b=some (2,es'):=by
  rw[I2];split
  ·rw[aC _ _ (Ne.symm UA),aD]
  ·rw[aD]
 have nc:f'.nodes c=some (k,les++res):=by
  rw[I2];split
  ·rw[aC _ _ Fu,aC _ _ sc,aD]
  ·rw[aC _ _ sc,aD]
 have nx:∀x,x≠b→x≠c→¬(x=s∧cu f s=1)→f'.nodes x=f.nodes x:=fun x h1 h2 h3=>by
  rw[I2];split
  ·rename_i q;rw[aC _ _ (fun e=>h3 ⟨e,q⟩),aC _ _ h1,aC _ _ h2]
  ·rw[aC _ _ h1,aC _ _ h2]
 have Gb:∀x,(x=c∨(x=s∧cu f s=1))→cu f x=1∧x∈kids (2,es):=fun x q=>by
  rcases q with q | ⟨q,q'⟩
  ·rw[q];exact⟨cc,fi⟩
  ·rw[q];exact⟨q',tj⟩
 have Gf:∀x d,f.nodes x=some d→x≠b→¬(x=c∨(x=s∧cu f s=1))→f'.nodes x=some d:=fun x d hx uv Ae=>by
  rw[nx x uv (fun e=>Ae (.inl e)) (fun e=>Ae (.inr e))];exact hx
 obtain⟨U,lk,gj,hU⟩:=p.cl w.ic w.tl af (fun x=>x=c∨(x=s∧cu f s=1)) Gb Gf;have Ap:∀x,x∈kids (k,ces)∨x∈kids (k,ses)→U x:=fun x hx=>by
  have key:∀{s':Nat} {ds:List E3},s'∈kids (2,es)→f.nodes s'=some (k,ds)→x∈kids (k,ds)→U x:=fun {s' ds} LH hd hx=>by
   obtain⟨dc,i9⟩:=w.ic.kid_live hd hx;obtain⟨o1,o2⟩:=p.kid2_off w.ic af LH hd hx;exact hU x dc i9 o1 fun q=>by
    rcases q with q | ⟨q,_⟩
    ·exact o2 (q▸fi)
    ·exact o2 (q▸tj)
  rcases hx with hx | hx
  ·exact key fi hc hx
  ·exact key tj hs hx
 have okc':Ok f'.nodes h c (some (ky es a)) (nxt es (a+1) hi):=(dK nc).2 (okj.kids fun x hx h' lo' ak hk=>by
  obtain⟨rfl,e,he,rfl⟩:=cO hx;have:U (ch e):=Ap _ ((jw e he).imp (fun q=>aV.2 ⟨e,q,rfl⟩) fun q=>aV.2 ⟨e,q,rfl⟩);exact⟨Ok.frame lk gj _ _ _ _ this hk,by unfold sz;rw[gj _ this]⟩)
 have iy:∀j,nxt es' j hi=if j<a then nxt es j hi else nxt es (j+1) hi:=fun j=>by
  by_cases j1:j<a
  ·rw[if_pos j1,cJ _ (by omega),cJ _ (by omega),gw,if_pos (by omega)]
  ·rw[if_neg j1]
   unfold nxt;by_cases j2:j+1<es'.length
   ·rw[if_pos j2,if_pos (by omega),gw,if_neg (by omega)]
   ·rw[if_neg j2,if_neg (by omega)]
 have av:∀y∈P,y≠b:=fun y hy e=>by
  obtain⟨uu,hh⟩:=w.ic.ht;have:=p.high hh y hy;rw[e]at this;omega
 have CI:∀y∈P,f'.nodes y=f.nodes y:=fun y hy=>nx y (av y hy) (fun e=>p.kid_off w.ic af fi (e▸List.mem_cons_of_mem _ hy)) (fun e=>p.kid_off w.ic af tj (e.1▸List.mem_cons_of_mem _ hy));have ti:(setN (setN f c (k,les++res)) b (2,es')).nodes s=some (k,ses):=by
  show upd (upd f.nodes c _) b _ s=_
  rw[aC _ _ UA,aC _ _ (Ne.symm Fu)];exact hs
 have ot:∀y,y≠s→y∉kids (k,ses)→cu f' y=cu f y:=fun y h1 h2=>nD (f:=setN (setN f c (k,les++res)) b (2,es')) (w.ic.lt hs) ti (fun x hx=>w.ic.kid_lt hs hx) h1 h2;have Ve:∀y∈b :: P,cu f' y=cu f y:=fun y hy=>ot y (fun e=>p.kid_off w.ic af tj (e▸hy)) (fun hk=>(p.kid2_off w.ic af tj hs hk).1 hy);have jo:f'.roots=f.roots:=dS _ _;have p':aN f' t H P b (h+1) lo hi:=p.mono (by unfold aB;rw[jo]) Ve CI;have kf:Ok f'.nodes (h+1) b lo hi:=by
  refine aDC nb ⟨fun i j g8 hj=>?_,fun j hj=>?_,fun j hj=>?_,by have:=e2.le5;omega⟩ Me hv fun j hj=>?_
  ·rw[gw,gw]
   by_cases i1:i≤a
   ·rw[if_pos i1]
    by_cases j1:j≤a
    ·rw[if_pos j1];exact e2.srt i j g8 (by omega)
    ·rw[if_neg j1];exact e2.srt i _ (by omega) (by omega)
   ·rw[if_neg i1,if_neg (by omega)];exact e2.srt _ _ (by omega) (by omega)
  ·rw[gw];split
   ·exact e2.lo j (by omega)
   ·exact e2.lo _ (by omega)
  ·rw[gw];split
   ·exact e2.hi j (by omega)
   ·exact e2.hi _ (by omega)
  ·have other:∀j',j'<es.length→j'≠a→j'≠a+1→2≤sz f'.nodes (kd es j')∧Ok f'.nodes h (kd es j') (some (ky es j')) (nxt es j' hi):=fun j' yf n1 n2=>by
    obtain⟨dj,JT⟩:=w.ic.kid_live af (aP yf);have:U (kd es j'):=hU _ dj JT (p.kid_off w.ic af (aP yf)) fun q=>by
     rcases q with q | ⟨q,q'⟩
     ·rcases iN with⟨r1,_⟩ | ⟨r1,_⟩
      ·rw[r1]at q;exact n1 (dU (by rw[←r1];exact(w.ic.only cc af fi).2.1) (by omega) yf q)
      ·rw[r1]at q;exact n2 (dU (by rw[←r1];exact(w.ic.only cc af fi).2.1) ha yf q)
     ·rcases iN with⟨_,r1,_⟩ | ⟨_,r1,_⟩
      ·rw[r1]at q;exact n2 (dU (by rw[←r1];exact(w.ic.only q' af tj).2.1) ha yf q)
      ·rw[r1]at q;exact n1 (dU (by rw[←r1];exact(w.ic.only q' af tj).2.1) (by omega) yf q)
    exact⟨by unfold sz;rw[gj _ this];exact(e5 j' yf).1,Ok.frame lk gj _ _ _ _ this (e5 j' yf).2⟩
   rw[ie,gw,iy];by_cases j1:j<a
   ·rw[if_pos j1,if_pos (by omega),if_pos j1];exact other j (by omega) (by omega) (by omega)
   ·rw[if_neg j1,if_neg j1]
    by_cases j2:j=a
    ·rw[if_pos j2,if_pos (by omega),j2]
     exact⟨by unfold sz;rw[nc];simp only[lP];have:=okl.2;omega,okc'⟩
    ·rw[if_neg j2,if_neg (by omega)];exact other _ (by omega) (by omega) (by omega)
 have bd:sz f'.nodes b=es'.length:=by unfold sz;rw[nb]
 refine⟨w.step p I1 jo af _ Gb Gf kf (fun hP=>by rw[bd];have:=h3 hP;omega),fun PN ez=>p.rt (by unfold aB;rw[jo]) CI (fun h0 hP=>by rw[bd];omega) ez,nb,p',?_,nc,fun key x hx h' hm=>Mem.frame lk gj _ _ (Ap x (.inl hx)) hm⟩;have mi:kd es' a=c:=by rw[ie,if_neg (by omega),if_pos rfl]
 have:=aN.down p' nb (i:=a) (by omega) (by rw[mi,ot c Fu (fun hk=>(p.kid2_off w.ic af tj hs hk).2 fi)];exact cc)
 rw[mi,gw,if_pos (nR a),iy,if_neg (by omega)]at this;exact this
theorem Wk.fall(w:Wk f t (h+1)){e:E3}(af:f.nodes (aB f t)=some (2,[e]))(h1:cu f (aB f t)=1)(hc:cu f (ch e)=1):
  let f':=fallF f t (aB f t) (ch e)
  Wk f' t h∧aN f' t h [] (ch e) h none none∧aB f' t=ch e∧cD f' t h∧(∀x,x≠aB f t→f'.nodes x=f.nodes x)∧(∀key,Mem f.nodes h (ch e) key→Mem f'.nodes h (ch e) key):=by
 intro f';obtain⟨I1,I2⟩:=w.ic.fall (t:=t) (r:=aB f t) w.tl rfl af h1;have ho:=w.ic.onlyRoot (aO w.tl) h1;have hk:ch e∈kids (2,[e]):=by simp[gK]
 have hr:aB f' t=ch e:=by
  show((f.roots.set t _).getD t (0,0)).2.toNat=_
  simp[gD,w.tl]
 have FE:∀u,u≠t→aB f' u=aB f u:=fun u hu=>by
  show((f.roots.set t _).getD u (0,0)).2.toNat=_
  unfold aB;simp only[gD,List.getElem?_set,if_neg (Ne.symm hu)]
 have nx:∀x,x≠aB f t→f'.nodes x=f.nodes x:=fun x hx=>by rw[I2,aC _ _ hx]
 let U:Nat→Prop:=fun x=>(∃d,f.nodes x=some d)∧x≠aB f t
 have lk:∀x d,U x→f.nodes x=some d→∀c∈kids d,U c:=fun x d' _ hx c bo=>
  ⟨w.ic.kid_live hx bo,fun e=>ho.2 x d' hx (by have:c=(f.roots.getD t (0,0)).2.toNat:=e;rw[←this];exact bo)⟩
 have gj:∀x,U x→f'.nodes x=f.nodes x:=fun x ⟨_,h1⟩=>nx x h1;have Ap:U (ch e):=⟨w.ic.kid_live af hk,fun q=>w.ic.not_self af (q▸hk)⟩;obtain⟨es0,q1,_,_,_,e5⟩:=w.ok;rw[af]at q1;cases q1;have h5:=e5 0 (by simp);have ie:kd [e] 0=ch e:=rfl;rw[ie]at h5;have okc:Ok f'.nodes h (ch e) none none:=(Ok.frame lk gj _ _ _ _ Ap h5.2).wide (fun _ _=>trivial) (fun _ _=>trivial);refine⟨⟨I1,by show t <(f.roots.set t _).length;simpa using w.tl,by rw[hr];exact okc,fun u hu yq=>?_⟩,?_,hr,.inr (by rw[hr];unfold sz;rw[gj _ Ap];exact h5.1),nx,fun key hm=>Mem.frame lk gj _ _ Ap hm⟩
 ·have hu:u<f.roots.length:=by have:u <(f.roots.set t _).length:=hu;simpa using this
  obtain⟨h',g1,g2⟩:=w.oth u hu yq;have Dw:U (aB f u):=⟨w.ic.root_live (aO hu),mR w.ic w.tl hu yq h1⟩;refine⟨h',by rw[FE u yq];exact Ok.frame lk gj _ _ _ _ Dw g1,?_⟩;rcases g2 with g2 | g2
  ·exact .inl g2
  ·refine .inr ?_
   unfold sz at g2 ⊢;rw[FE u yq,gj _ Dw];exact g2
 ·have Gn:ch e≠aB f t:=Ap.2
  have:=aN.here (f:=f') (t:=t) (H:=h) (by
   rw[hr];exact(fE f (aB f t) (ch e) 0 (w.ic.lt af)).trans ((if_neg (Ne.symm Gn)).trans hc))
  rw[hr]at this;exact this
theorem Wk.shadow_sib(w:Wk f t H)(p:aN f t H P b (h+1) lo hi)(af:f.nodes b=some (2,es))(ak:i<es.length)(hs:shadow f (.ent b i)=some (g,c)):
  (∀key h',Mem f.nodes h' (kd es i) key→Mem g.nodes h' c key)∧(∀x∈kids (2,es),x≠kd es i→g.nodes x=f.nodes x∧cu g x=cu f x∧∀key h',Mem f.nodes h' x key→Mem g.nodes h' x key)∧
   (∀es',g.nodes b=some (2,es')→∀j,(es'.getD j e0).2.1=(es.getD j e0).2.1∧(j≠i→es'.getD j e0=es.getD j e0)):=by
 have gx:look f b=(2,es):=aE af;have hg:bJ f (.ent b i)=kd es i:=by simp only[bJ,gx];rfl
 unfold shadow at hs;rw[hg]at hs;by_cases ho:own f (kd es i)
 ·rw[if_pos ho]at hs;cases hs
  exact⟨fun _ _ q=>q,fun _ _ _=>⟨rfl,rfl,fun _ _ q=>q⟩,fun es' h' j=>by rw[af]at h';cases h';exact⟨rfl,fun _=>rfl⟩⟩
 ·rw[if_neg ho]at hs
  by_cases hl:aF f=0
  ·rw[if_pos hl]at hs;cases hs
  ·rw[if_neg hl]at hs;cases hs
   obtain⟨h9,mj,hc,_⟩:=aR hl;generalize aF f=q at *;obtain⟨d,hd⟩:=w.ic.kid_live af (aP ak);have hL:dO f (.ent b i):=⟨w.ic.lt af,es,af,ak⟩;obtain⟨I1,I2,I3,I4,I5⟩:=w.ic.shadow hL hg hd h9 mj hc;have dh:f.nodes q=none:=(w.ic.dom.dead q).2 hc;have fi:=aP ak;have sc:kd es i≠b:=fun e=>w.ic.not_self af (by rw[←e];exact fi);have AH:kd es i≠q:=fun e=>by rw[e,dh]at hd;cases hd
   have mh:b≠q:=fun e=>by rw[e,dh]at af;cases af
   have AW:=w.ic.not_self hd;have nb:(shadowAt f (.ent b i) q).nodes b=some (setE (2,es) i q):=by
    rw[I2];unfold shN cpN;simp only[gx];split
    ·rw[aC _ _ (Ne.symm sc),aD]
    ·rw[aD]
   have nq:(shadowAt f (.ent b i) q).nodes q=some d:=by
    rw[I2];unfold shN cpN;simp only;split
    ·rw[aC _ _ (Ne.symm AH),aC _ _ (Ne.symm mh),aD]
    ·rw[aC _ _ (Ne.symm mh),aD]
   have nx:∀x,x≠b→x≠q→¬(x=kd es i∧cu f (kd es i)=1)→(shadowAt f (.ent b i) q).nodes x=f.nodes x:=fun x h1 h2 h3=>by
    rw[I2];unfold shN cpN;simp only;split
    ·rename_i ot
     rw[aC _ _ (fun e=>h3 ⟨e,ot⟩),aC _ _ h1,aC _ _ h2]
    ·rw[aC _ _ h1,aC _ _ h2]
   have en:∀{x:Nat} {d':Nd},f.nodes x=some d'→x≠q:=fun hx e=>by rw[e,dh]at hx;cases hx
   obtain⟨U,lk,gj,hU⟩:=p.cl w.ic w.tl af (nodes':=(shadowAt f (.ent b i) q).nodes) (fun x=>x=kd es i∧cu f (kd es i)=1) (fun x ⟨q1,q2⟩=>⟨by rw[q1];exact q2,by rw[q1];exact fi⟩) (fun x d hx uv Ae=>by rw[nx x uv (en hx) Ae];exact hx);refine⟨fun key h' hm=>?_,fun x hx Ob=>?_,fun es' h' j=>?_⟩
   ·rw[bO nq]
    rw[bO hd]at hm;obtain⟨k,des⟩:=d;refine hm.more (fun e he=>he) fun c bo U8 g9=>?_;obtain⟨dc,i9⟩:=w.ic.kid_live hd bo;exact Mem.frame lk gj _ _ (hU c dc i9 (p.kid2_off w.ic af fi hd bo).1 fun q'=>AW (q'.1▸bo)) g9
   ·obtain⟨dx,Tk⟩:=w.ic.kid_live af hx
    have TV:=hU x dx Tk (p.kid_off w.ic af hx) fun q'=>Ob q'.1;refine⟨gj x TV,uQ w.ic hL hg hd mj hc Ob (fun hk=>?_) (en Tk),fun key h' hm=>Mem.frame lk gj _ _ TV hm⟩;exact(p.kid2_off w.ic af fi hd hk).2 hx
   ·rw[nb]at h'
    have:es'=es.set i ((es.getD i e0).1,(es.getD i e0).2.1,(q:Int)):=by
     simp only[setE,sJ,Prod.mk.injEq,true_and]at h';exact h'.symm
    rw[this,bB _ _ _ _ _ ak];by_cases e:j=i
    ·rw[if_pos e,e];exact⟨rfl,fun q=>absurd rfl q⟩
    ·rw[if_neg e];exact⟨rfl,fun _=>rfl⟩
def fillNext(g:fZ)(b i c:Nat):Option fZ:=
 if 2 <(look g (kd (look g b).2 (i+1))).2.length then
  match shadow g (.ent b (i+1))with
  | none=>none
  | some (k,s)=>some (moveF k b c s (look k c).1 ((look k c).2++(look k s).2.take 1) ((look k s).2.drop 1) ((look k b).2.set (i+1) (ky (look k s).2 1,((look k b).2.getD (i+1) e0).2)))
 else some (mergeF g b c (kd (look g b).2 (i+1)) (look g c).1 ((look g c).2++(look g (kd (look g b).2 (i+1))).2) (delE (look g b).2 (i+1)))
def fillLast(g:fZ)(b i c:Nat):Option fZ:=
 if 2 <(look g (kd (look g b).2 (i-1))).2.length then
  match shadow g (.ent b (i-1))with
  | none=>none
  | some (k,s)=>some (moveF k b s c (look k c).1 ((look k s).2.take ((look k s).2.length-1)) ((look k s).2.drop ((look k s).2.length-1)++(look k c).2) ((look k b).2.set i (ky (look k s).2 ((look k s).2.length-1),((look k b).2.getD i e0).2)))
 else some (mergeF g b c (kd (look g b).2 (i-1)) (look g c).1 ((look g (kd (look g b).2 (i-1))).2++(look g c).2) (delE ((look g b).2.set i (ky (look g b).2 (i-1),((look g b).2.getD i e0).2)) (i-1)))
def stepDel(f:fZ)(b:Nat)(key:ByteArray):Option (fZ×Nat):=
 match shadow f (.ent b (bK (look f b).2 key))with
 | none=>none
 | some (g,c)=>
  if 2 <(look g c).2.length then some (g,c)else
  if bK (look f b).2 key+1 <(look g b).2.length then(fillNext g b (bK (look f b).2 key) c).map fun k=>(k,c)
  else(fillLast g b (bK (look f b).2 key) c).map fun k=>(k,c)
def delAt:Nat→fZ→Nat→Nat→ByteArray→Option fZ
 | 0,f,t,b,key=>some (setN f b (1,delE (look f b).2 (cLt (look f b).2 key)))
 | h+1,f,t,b,key=>match stepDel f b key with
  | none=>none
  | some (g,c)=>if(look g b).2.length=1 then delAt h (fallF g t (aB g t) (kd (look g b).2 0)) t c key else delAt h g t c key
def bV(f:fZ)(t H:Nat)(key:ByteArray):Option fZ:=
 match shadow f (.root t)with
 | none=>none
 | some (g,r)=>delAt H g t r key
theorem kV(k:Int)(es:List E3)(n x:Nat):(kids (k,es.take n)).count x+(kids (k,es.drop n)).count x=(kids (k,es)).count x:=(rW k es n x).symm
structure Stp(f g:fZ)(t H:Nat)(P:List Nat)(b h:Nat)(lo hi:OB)(c:Nat)(key:ByteArray):Prop where
 wk:Wk g t H
 same:aX f g
 path:∃lo' ak,aN g t H (b :: P) c h lo' ak
 up:aN g t H P b (h+1) lo hi
 spare:3≤sz g.nodes c
 mem:Mem g.nodes h c key
 rt:cD f t H→cD g t H∨(P=[]∧∃e,g.nodes b=some (2,[e])∧ch e=c)
 many:(∃es,g.nodes b=some (2,es)∧2≤es.length)∨(P=[]∧∃e,g.nodes b=some (2,[e])∧ch e=c)
theorem Wk.fillNext(w:Wk g t H)(p:aN g t H P b (h+1) lo hi)(af:g.nodes b=some (2,es))(ak:i+1<es.length)(hc:g.nodes (kd es i)=some (k,ces))(cc:cu g (kd es i)=1)(au:ces.length=2)(hm:Mem g.nodes h (kd es i) key)(h3:P≠[]→3≤es.length)
  {f':fZ} (hs:fillNext g b i (kd es i)=some f'):Stp g f' t H P b h lo hi (kd es i) key:=by
 have fi:=aP (show i<es.length by omega);have tj:=aP ak;obtain⟨es0,q1,e2,e3,e4,e5⟩:=(p.ok w.ok).1;rw[af]at q1;cases q1;have BN:=(dK hc).1 (e5 i (by omega)).2;rw[cJ _ ak]at BN;obtain⟨⟨k',ses⟩,hd⟩:=w.ic.kid_live af tj;have Ao:=(dK hd).1 (e5 (i+1) ak).2;have ow:k'=k:=by
  cases h with
  | zero=>have a1:=BN.1;have a2:=Ao.1;simp only at a1 a2;omega
  | succ h=>have a1:=BN.1;have a2:=Ao.1;simp only at a1 a2;omega
 subst ow;have eS:2≤ses.length:=by have:=(e5 (i+1) ak).1;unfold sz at this;rw[hd]at this;exact this
 have LI:ses.length≤5:=Ao.node.le5;have iN:kd es i≠kd es (i+1):=fun e=>by
  have:=dU (w.ic.only cc af fi).2.1 (by omega) ak e.symm;omega
 have zc:ces≠[]:=fun e=>by rw[e]at au;simp at au
 unfold Fo.fillNext at hs;rw[aE af]at hs;simp only at hs;rw[aE hd]at hs;simp only at hs;by_cases kr:2<ses.length
 ·rw[if_pos kr]at hs
  cases al:shadow g (.ent b (i+1))with
  | none=>rw[al]at hs;cases hs
  | some ks=>
   obtain⟨g2,s⟩:=ks;rw[al]at hs;simp only[sJ]at hs;obtain⟨w2,p2,p3,⟨es2,m1,m2,m3,m4⟩,m5,m6,m7,m8,m9⟩:=w.shadow_ent p af ak al;obtain⟨s1,s2,s3⟩:=w.shadow_sib p af ak al;obtain⟨x1,x2,x3⟩:=s2 _ fi iN;have mi:kd es2 i=kd es i:=by unfold kd;rw[(s3 es2 m1 i).2 (by omega)]
   have jg:g2.nodes (kd es2 i)=some (k',ces):=by rw[mi,x1];exact hc
   have sy:g2.nodes (kd es2 (i+1))=some (k',ses):=by rw[m4,m5];exact hd
   obtain⟨es3,q1,_,_,_,e5'⟩:=(p2.ok w2.ok).1;rw[m1]at q1;cases q1;have Fh:=(dK jg).1 (e5' i (by omega)).2;rw[cJ _ (by omega)]at Fh;have Ck:=(dK sy).1 (e5' (i+1) (by omega)).2;have JR:g2.nodes s=some (k',ses):=by rw[←m4];exact sy
   have AG:g2.nodes (kd es i)=some (k',ces):=by rw[←mi];exact jg
   rw[aE AG,aE JR,aE m1]at hs;simp only at hs;have mv:=w2.move p2 m1 (a:=i) (by omega) jg sy (by rw[mi,x2];exact cc) (by rw[m4];exact m6) (les':=ces++ses.take 1) (res':=ses.drop 1) (mid:=ky ses 1)
    (Fh.join (Ck.take (by omega) (by omega)) (eA _) zc (oH (by omega) (by omega)) (by rw[len_take' (by omega)];omega))
    (Ck.drop (by omega)) (by rw[lP,len_take' (by omega)];omega) (by rw[List.length_drop];omega)
    (fun x=>by rw[nO,List.count_append];have:=kV k' ses 1 x;omega)
    (fun e he=>by
     rcases he with he | he
     ·rcases List.mem_append.1 he with he | he
      ·exact .inl he
      ·exact .inr (List.mem_of_mem_take he)
     ·exact .inr (List.mem_of_mem_drop he))
   rw[m4,mi]at mv;simp only at mv;rw[hs]at mv;obtain⟨v1,v2,v3,v4,v5,v6,v7,v8,v9⟩:=mv;have uj:(es2.set (i+1) (ky ses 1,(es2.getD (i+1) e0).2)).length=es.length:=by simp[m2]
   refine⟨v1,m9.trans (hs▸aX.moveF ..),⟨_,_,v5⟩,v4,?_,?_,fun hr=>.inl (v2 (m8 hr)),.inl ⟨_,v3,by rw[uj];omega⟩⟩
   ·unfold sz;rw[v7];simp only[lP,List.length_take];omega
   ·rw[bO v7]
    have od:=x3 key h hm;rw[bO AG]at od;exact od.more (fun e he=>List.mem_append_left _ he) fun c bo h' g9=>v9 key c (.inl bo) h' g9
 ·rw[if_neg kr,aE hc]at hs
  simp only[sJ]at hs;have cg:∀e∈delE es (i+1),0≤e.2.2:=fun e he=>by
   obtain⟨j,hj,rfl⟩:=cN (nW he);exact w.ic.child_pos af hj
  have ik:=fun j=>gZ es (i+1) e0 (by omega) j;have mg:=w.merge p af (a:=i) ak (es':=delE es (i+1)) (.inl ⟨rfl,rfl,rfl,rfl⟩) hc hd cc (by omega) (by rw[bI _ _ ak];omega)
   (fun j=>by
    unfold ky;rw[ik];by_cases q:j≤i
    ·rw[if_pos (by omega),if_pos q]
    ·rw[if_neg (by omega),if_neg q])
   (fun j=>by
    unfold kd;rw[ik];by_cases q:j<i
    ·rw[if_pos (by omega),if_pos q]
    ·rw[if_neg q]
     by_cases q':j=i
     ·rw[if_pos (by omega),if_pos q',q']
     ·rw[if_neg (by omega),if_neg q'])
   (fun j hj=>by
    rw[bI _ _ ak]at hj;rw[ik];split
    ·exact e4 j (by omega)
    ·exact e4 _ (by omega))
   (fun x=>vB es (i+1) x ak) cg h3
  simp only at mg
  rw[hs]at mg;obtain⟨v1,v2,v3,v4,v5,v6,v7⟩:=mg;have fh:(∃es',f'.nodes b=some (2,es')∧2≤es'.length)∨(P=[]∧∃e,f'.nodes b=some (2,[e])∧ch e=kd es i):=by
   by_cases q:3≤es.length
   ·exact .inl ⟨_,v3,by rw[bI _ _ ak];omega⟩
   ·refine .inr ⟨by by_cases hP:P=[];exact hP;exact absurd (h3 hP) q,es.getD 0 e0,?_,?_⟩
    ·rw[v3]
     have hl:es.length=2:=by omega
     obtain rfl:i=0:=by omega
     match es,hl with
     | [x,y],_=>rfl
    ·obtain rfl:i=0:=by omega
     rfl
  refine⟨v1,hs▸aX.mergeF ..,⟨_,_,v5⟩,v4,?_,?_,fun hr=>?_,fh⟩
  ·unfold sz;rw[v6];simp only[lP];omega
  ·rw[bO v6]
   rw[bO hc]at hm;exact hm.more (fun e he=>List.mem_append_left _ he) fun c bo h' g9=>v7 key c bo h' g9
  ·by_cases q:3≤es.length
   ·exact .inl (v2 q hr)
   ·rcases fh with⟨es',n1,n2⟩ | q'
    ·rw[v3]at n1;cases n1;rw[bI _ _ ak]at n2;omega
    ·exact .inr q'
