import Derived.Laws.Strings
import Derived.Test.YtaahkgkdpnnhhaaGreatFo1
set_option linter.all false
namespace Go.Proofs.YtaahkgkdpnnhhaaGreat.Fo
theorem eM{ht:Nat→Nat}{v:Nat}{es:List E3}(h:HtN ht v (2,es)){c:Nat}(hc:c∈kids (2,es)):ht c+1=v:=by
 rcases h with⟨q,_⟩ | ⟨_,q⟩
 ·simp at q
 ·exact q c hc
theorem gC{es:List E3}{m:Nat}:(∀e∈es.take m,∃e'∈es,ch e=ch e')∧(∀e∈es.drop m,∃e'∈es,ch e=ch e'):=
 ⟨fun e he=>⟨e,List.mem_of_mem_take he,rfl⟩,fun e he=>⟨e,List.mem_of_mem_drop he,rfl⟩⟩
theorem nY{es:List E3}{m:Nat}(h:m<es.length)(hm:0<m):es.take m≠[]:=fun e=>by
 have:=congrArg List.length e;rw[List.length_take,List.length_nil]at this;omega
theorem nJ{es:List E3}{m:Nat}(h:m<es.length):es.drop m≠[]:=fun e=>by
 have:=congrArg List.length e;simp at this;omega
theorem kP{k:Int}{es es':List E3}(hs:∀e∈es',e∈es){c:Nat}(h:c∈kids (k,es')):c∈kids (k,es):=by
 obtain⟨rfl,e,he,rfl⟩:=cL h;exact aU.2 ⟨e,hs e he,rfl⟩
def splitF(f:fZ)(p:Nat)(pes:List E3)(at' c:Nat)(k:Int)(ces:List E3)(m q:Nat)(key:ByteArray):fZ:=
 setN (takeAt (setN f c (k,ces.take m)) q (k,ces.drop m)) p (2,insE pes (at'+1) (key,.empty,(q:Int)))
theorem IC.split{f:fZ}(h:IC f){p c q at' m:Nat}{k:Int}{pes ces:List E3}(key:ByteArray)(hp:f.nodes p=some (2,pes))(ha:at'<pes.length)(hc:c=ch (pes.getD at' e0))(hd:f.nodes c=some (k,ces))(hm:0<m)(hm':m<ces.length)(hq2:2≤q)(hqn:q<f.cur.length)(hq:cu f q=0):
  IC (splitF f p pes at' c k ces m q key)∧(splitF f p pes at' c k ces m q key).nodes=upd (upd (upd f.nodes c (some (k,ces.take m))) q (some (k,ces.drop m))) p (some (2,insE pes (at'+1) (key,.empty,(q:Int)))):=by
 refine⟨?_,rfl⟩;obtain⟨ht,hI⟩:=h.ip;have hqd:f.nodes q=none:=(h.dom.dead q).2 hq;have hck:c∈kids (2,pes):=hc▸gM ha;have hpc:p≠c:=fun e=>h.not_self hp (e▸hck);have hqc:q≠c:=fun e=>by rw[←e,hqd]at hd;cases hd
 have hqp:q≠p:=fun e=>by rw[←e,hqd]at hp;cases hp
 have hhc:=hI.ht c _ hd;have hhp:=eM (hI.ht p _ hp) hck;have I1:IP (setN f c (k,ces.take m)) ht:=hI.setN hd ((h.kb c _ hd).sub (fun e he=>List.mem_of_mem_take he) fun _=>nY hm' hm) (hhc.sub gC.1);have I2:=I1.takeAt (q:=q) (v:=ht c) (d:=(k,ces.drop m)) hq2 hqn ((h.kb c _ hd).sub (fun e he=>List.mem_of_mem_drop he) fun _=>nJ hm') (hhc.sub gC.2)
  (fun hk=>h.dead_kid hqd hd (kP (fun e he=>List.mem_of_mem_drop he) hk))
  (fun y e hy hk=>by
   by_cases ey:y=c
   ·subst ey
    have hy':upd f.nodes y (some (k,ces.take m)) y=some e:=hy;rw[aD]at hy';cases hy';exact h.dead_kid hqd hd (kP (fun e he=>List.mem_of_mem_take he) hk)
   ·have hy':upd f.nodes c (some (k,ces.take m)) y=some e:=hy
    rw[aC _ _ ey]at hy';exact h.dead_kid hqd hy' hk)
 have hp2:(takeAt (setN f c (k,ces.take m)) q (k,ces.drop m)).nodes p=some (2,pes):=by
  show upd (upd f.nodes c (some (k,ces.take m))) q (some (k,ces.drop m)) p=_
  rw[aC _ _ (Ne.symm hqp),aC _ _ hpc];exact hp
 have hl2:(takeAt (setN f c (k,ces.take m)) q (k,ces.drop m)).cur.length=f.cur.length:=by simp[takeAt,setN]
 have I3:=I2.setN (d':=(2,insE pes (at'+1) (key,.empty,(q:Int)))) hp2 ?_ ?_
 ·refine I3.ic fun x hx=>?_
  have hx:x<f.cur.length:=by have:x <(takeAt (setN f c (k,ces.take m)) q (k,ces.drop m)).cur.length:=hx;rw[hl2]at this;exact this
  have e1:=gB (d':=(k,ces.take m)) (h.lt hd) hd x;have e2:=lK (f:=setN f c (k,ces.take m)) (q:=q) (d:=(k,ces.drop m)) hqn (by show upd f.nodes c _ q=none;rw[aC _ _ hqc];exact hqd) hq x;have e3:=gB (d':=(2,insE pes (at'+1) (key,.empty,(q:Int)))) (by rw[hl2];exact h.lt hp) hp2 x;have e4:=rD k ces m x;have e5:=aED pes (at'+1) (key,.empty,(q:Int)) x;have e6:ch (key,.empty,(q:Int))=q:=by simp[ch]
  rw[e6]at e5;have e0:=h.D0 x hx;show df (setN _ p _) x=0
  rw[e3,e2,e1];omega
 ·rw[hl2]
  rcases h.kb p _ hp with q' | ⟨_,q1,q2⟩
  ·simp at q'
  ·refine .inr ⟨rfl,by simp[insE],fun e he=>?_⟩
   rcases aAC he with rfl | he
   ·exact⟨by simp,by simpa [ch] using hqn⟩
   ·exact q2 e he
 ·rw[aC _ _ (Ne.symm hqp)]
  refine .inr ⟨rfl,fun x hx=>?_⟩;obtain⟨e,he,rfl⟩:=aU.1 hx;rcases aAC he with rfl | he
  ·simp only[ch,Int.toNat_natCast];rw[aD];exact hhp
  ·have hk:ch e∈kids (2,pes):=aU.2 ⟨e,he,rfl⟩
   rw[aC _ _ (fun(z:ch e=q)=>h.dead_kid hqd hp (z▸hk))];exact eM (hI.ht p _ hp) hk
def growF(f:fZ)(t r:Nat)(k:Int)(es:List E3)(m q top:Nat)(k0 k1:ByteArray):fZ:=
 setL (takeAt (takeAt (setN f r (k,es.take m)) q (k,es.drop m)) top (2,[(k0,.empty,(r:Int)),(k1,.empty,(q:Int))])) (.root t) top
theorem IC.grow{f:fZ}(h:IC f){t r q top m:Nat}{k:Int}{es:List E3}(k0 k1:ByteArray)(htl:t<f.roots.length)(hr:(f.roots.getD t (0,0)).2.toNat=r)(hd:f.nodes r=some (k,es))(hm:0<m)(hm':m<es.length)
  (hq2:2≤q) (hqn:q<f.cur.length) (hq:cu f q=0) (ht2:2≤top) (htn:top<f.cur.length) (htc:cu f top=0) (htq:top≠q):
  IC (growF f t r k es m q top k0 k1)∧(growF f t r k es m q top k0 k1).nodes=upd (upd (upd f.nodes r (some (k,es.take m))) q (some (k,es.drop m))) top (some (2,[(k0,.empty,(r:Int)),(k1,.empty,(q:Int))])):=by
 refine⟨?_,rfl⟩;obtain⟨ht,hI⟩:=h.ip;have hqd:f.nodes q=none:=(h.dom.dead q).2 hq;have htd:f.nodes top=none:=(h.dom.dead top).2 htc;have hqr:q≠r:=fun e=>by rw[←e,hqd]at hd;cases hd
 have htr:top≠r:=fun e=>by rw[←e,htd]at hd;cases hd
 have hrn:=h.lt hd;have hhr:=hI.ht r _ hd;have I1:IP (setN f r (k,es.take m)) ht:=hI.setN hd ((h.kb r _ hd).sub (fun e he=>List.mem_of_mem_take he) fun _=>nY hm' hm) (hhr.sub gC.1);have dead1:∀z,f.nodes z=none→∀y e,(setN f r (k,es.take m)).nodes y=some e→z∉kids e:=fun z hz y e hy hk=>by
   by_cases ey:y=r
   ·subst ey
    have hy':upd f.nodes y (some (k,es.take m)) y=some e:=hy;rw[aD]at hy';cases hy';exact h.dead_kid hz hd (kP (fun e he=>List.mem_of_mem_take he) hk)
   ·have hy':upd f.nodes r (some (k,es.take m)) y=some e:=hy
    rw[aC _ _ ey]at hy';exact h.dead_kid hz hy' hk
 have I2:=I1.takeAt (q:=q) (v:=ht r) (d:=(k,es.drop m)) hq2 hqn ((h.kb r _ hd).sub (fun e he=>List.mem_of_mem_drop he) fun _=>nJ hm') (hhr.sub gC.2)
  (fun hk=>h.dead_kid hqd hd (kP (fun e he=>List.mem_of_mem_drop he) hk)) (dead1 q hqd)
 have hl2:(takeAt (setN f r (k,es.take m)) q (k,es.drop m)).cur.length=f.cur.length:=by simp[takeAt,setN]
 have hkt:kids (2,[(k0,.empty,(r:Int)),(k1,.empty,(q:Int))])=[r,q]:=by simp[gL,ch]
 have I3:=I2.takeAt (q:=top) (v:=ht r+1) (d:=(2,[(k0,.empty,(r:Int)),(k1,.empty,(q:Int))])) ht2 (by rw[hl2];exact htn)
  (.inr ⟨rfl,by simp,fun e he=>by
   rw[hl2];simp only[List.mem_cons,List.not_mem_nil,or_false]at he;rcases he with rfl | rfl
   ·exact⟨by simp,by simpa [ch] using hrn⟩
   ·exact⟨by simp,by simpa [ch] using hqn⟩⟩)
  (.inr ⟨rfl,fun c hc=>by
   rw[hkt]at hc;simp only[List.mem_cons,List.not_mem_nil,or_false]at hc;rcases hc with rfl | rfl
   ·rw[aC _ _ (Ne.symm hqr)]
   ·rw[aD]⟩)
  (fun hk=>by rw[hkt]at hk;simp[htr,htq]at hk)
  (fun y e hy hk=>by
   by_cases ey:y=q
   ·subst ey
    have hy':upd (setN f r (k,es.take m)).nodes y (some (k,es.drop m)) y=some e:=hy;rw[aD]at hy';cases hy';exact h.dead_kid htd hd (kP (fun e he=>List.mem_of_mem_drop he) hk)
   ·have hy':upd (setN f r (k,es.take m)).nodes q (some (k,es.drop m)) y=some e:=hy
    rw[aC _ _ ey]at hy';exact dead1 top htd y e hy' hk)
 have hl3:(takeAt (takeAt (setN f r (k,es.take m)) q (k,es.drop m)) top (2,[(k0,.empty,(r:Int)),(k1,.empty,(q:Int))])).cur.length=f.cur.length:=by simp[takeAt,setN]
 refine(I3.setRoot t (q:=top) (by rw[hl3];exact htn)).ic fun x hx=>?_;rw[bG,hl3]at hx;have e1:=gB (d':=(k,es.take m)) hrn hd x;have e2:=lK (f:=setN f r (k,es.take m)) (q:=q) (d:=(k,es.drop m)) hqn (by show upd f.nodes r _ q=none;rw[aC _ _ hqr];exact hqd) hq x;have e3:=lK (f:=takeAt (setN f r (k,es.take m)) q (k,es.drop m)) (q:=top) (d:=(2,[(k0,.empty,(r:Int)),(k1,.empty,(q:Int))])) (by rw[hl2];exact htn)
  (by show upd (upd f.nodes r _) q _ top=none;rw[aC _ _ htq,aC _ _ htr];exact htd)
  (by rw[dT _ (by exact hqn),if_neg (Ne.symm htq)];exact htc) x
 have e4:=wT (f:=takeAt (takeAt (setN f r (k,es.take m)) q (k,es.drop m)) top (2,[(k0,.empty,(r:Int)),(k1,.empty,(q:Int))])) (L:=.root t) (b:=r) htl hr top x;have e5:=rD k es m x;have e6:(kids (2,[(k0,.empty,(r:Int)),(k1,.empty,(q:Int))])).count x=one r x+one q x:=by
  rw[hkt];simp only[List.count_cons,List.count_nil,beq_iff_eq,one];omega
 have e0:=h.D0 x hx;rw[e4,e3,e2,e1,e6];omega
def moveF(f:fZ)(p c s:Nat)(k:Int)(ces ses pes:List E3):fZ:=setN (setN (setN f c (k,ces)) s (k,ses)) p (2,pes)
theorem IC.move{f:fZ}(h:IC f){p c s:Nat}{k:Int}{pes pes' ces ces' ses ses':List E3}(hp:f.nodes p=some (2,pes))(hc:c∈kids (2,pes))(hs:s∈kids (2,pes))(hcs:c≠s)(hdc:f.nodes c=some (k,ces))(hds:f.nodes s=some (k,ses))
  (hk:kids (2,pes')=kids (2,pes)) (hpp:∀e∈pes',0≤e.2.2) (hall:∀x,(kids (k,ces')).count x+(kids (k,ses')).count x=(kids (k,ces)).count x+(kids (k,ses)).count x)
  (hin:∀e,e∈ces'∨e∈ses'→e∈ces∨e∈ses) (h0:ces'≠[]∧ses'≠[]):
  IC (moveF f p c s k ces' ses' pes')∧(moveF f p c s k ces' ses' pes').nodes=upd (upd (upd f.nodes c (some (k,ces'))) s (some (k,ses'))) p (some (2,pes')):=by
 refine⟨?_,rfl⟩;obtain⟨ht,hI⟩:=h.ip;have hpc:p≠c:=fun e=>h.not_self hp (e▸hc);have hps:p≠s:=fun e=>h.not_self hp (e▸hs);have hv:ht c=ht s:=by have:=eM (hI.ht p _ hp) hc;have:=eM (hI.ht p _ hp) hs;omega
 have good:∀es',es'≠[]→(∀e∈es',e∈ces∨e∈ses)→kJ f.cur.length (k,es')∧HtN ht (ht c) (k,es'):=fun es' hne hes=>by
  have a1:=h.kb c _ hdc;have a2:=h.kb s _ hds;have b1:=hI.ht c _ hdc;have b2:=hI.ht s _ hds;rw[←hv]at b2;constructor
  ·rcases a1 with a1 | ⟨a1,_,a3⟩
   ·exact .inl a1
   ·rcases a2 with a2 | ⟨_,_,a4⟩
    ·simp only at a1 a2;omega
    ·refine .inr ⟨a1,hne,fun e he=>?_⟩
     rcases hes e he with q | q
     ·exact a3 e q
     ·exact a4 e q
  ·rcases b1 with b1 | ⟨b1,b3⟩
   ·exact .inl b1
   ·rcases b2 with⟨b2,_⟩ | ⟨_,b4⟩
    ·simp only at b1 b2;omega
    ·refine .inr ⟨b1,fun x hx=>?_⟩
     obtain⟨rfl,e,he,rfl⟩:=cL hx;rcases hes e he with q | q
     ·exact b3 _ (aU.2 ⟨e,q,rfl⟩)
     ·exact b4 _ (aU.2 ⟨e,q,rfl⟩)
 have g1:=good ces' h0.1 fun e he=>hin e (.inl he);have g2:=good ses' h0.2 fun e he=>hin e (.inr he);have I1:=hI.setN (d':=(k,ces')) hdc g1.1 g1.2;have hs1:(setN f c (k,ces')).nodes s=some (k,ses):=by show upd f.nodes c _ s=_;rw[aC _ _ (Ne.symm hcs)];exact hds
 have I2:=I1.setN (d':=(k,ses')) hs1 g2.1 (hv▸g2.2);have hp2:(setN (setN f c (k,ces')) s (k,ses')).nodes p=some (2,pes):=by
  show upd (upd f.nodes c _) s _ p=_
  rw[aC _ _ hps,aC _ _ hpc];exact hp
 have I3:=I2.setN (d':=(2,pes')) hp2 ?_ ?_
 ·refine I3.ic fun x hx=>?_
  have hx:x<f.cur.length:=hx;have e1:=gB (d':=(k,ces')) (h.lt hdc) hdc x;have e2:=gB (f:=setN f c (k,ces')) (d':=(k,ses')) (h.lt hds) hs1 x;have e3:=gB (f:=setN (setN f c (k,ces')) s (k,ses')) (d':=(2,pes')) (h.lt hp) hp2 x;have e4:=hall x;have e0:=h.D0 x hx;show df (setN _ p _) x=0
  rw[e3,e2,e1,hk];omega
 ·rcases h.kb p _ hp with q' | ⟨_,q1,q2⟩
  ·simp at q'
  ·refine .inr ⟨rfl,?_,fun e he=>⟨hpp e he,?_⟩⟩
   ·intro e;simp only at e;subst e;simp[gL]at hk;exact q1 (by simpa using hk)
   ·exact(h.kb p _ hp).kid (by rw[←hk];exact aU.2 ⟨e,he,rfl⟩)
 ·exact .inr ⟨rfl,fun x hx=>eM (hI.ht p _ hp) (hk▸hx)⟩
def mergeF(f:fZ)(p c s:Nat)(k:Int)(ces pes:List E3):fZ:=letGo (setN (setN f c (k,ces)) p (2,pes)) s
theorem IC.merge{f:fZ}(h:IC f){p c s:Nat}{k:Int}{pes pes' ces ces' ses:List E3}(hp:f.nodes p=some (2,pes))(hc:c∈kids (2,pes))(hs:s∈kids (2,pes))(hcs:c≠s)(hdc:f.nodes c=some (k,ces))(hds:f.nodes s=some (k,ses))
  (hk:∀x,(kids (2,pes')).count x+one s x=(kids (2,pes)).count x) (hpp:∀e∈pes',0≤e.2.2) (hpn:pes'≠[]) (hall:∀x,(kids (k,ces')).count x=(kids (k,ces)).count x+(kids (k,ses)).count x)
  (hin:∀e,e∈ces'→e∈ces∨e∈ses) (h0:ces'≠[]):
  IC (mergeF f p c s k ces' pes')∧(mergeF f p c s k ces' pes').nodes=(if cu f s=1 then upd (upd (upd f.nodes c (some (k,ces'))) p (some (2,pes'))) s none else upd (upd f.nodes c (some (k,ces'))) p (some (2,pes'))):=by
 have hn:(mergeF f p c s k ces' pes').nodes=(if cu f s=1 then upd (upd (upd f.nodes c (some (k,ces'))) p (some (2,pes'))) s none else upd (upd f.nodes c (some (k,ces'))) p (some (2,pes'))):=by
  unfold mergeF;rw[cN];rfl
 refine⟨?_,hn⟩;obtain⟨ht,hI⟩:=h.ip;have hpc:p≠c:=fun e=>h.not_self hp (e▸hc);have hps:p≠s:=fun e=>h.not_self hp (e▸hs);have hv:ht c=ht s:=by have:=eM (hI.ht p _ hp) hc;have:=eM (hI.ht p _ hp) hs;omega
 have hsub:∀x∈kids (2,pes'),x∈kids (2,pes):=fun x hx=>by
  have:=hk x;have:=List.count_pos_iff.2 hx;exact List.count_pos_iff.1 (by omega)
 have good:kJ f.cur.length (k,ces')∧HtN ht (ht c) (k,ces'):=by
  have a1:=h.kb c _ hdc;have a2:=h.kb s _ hds;have b1:=hI.ht c _ hdc;have b2:=hI.ht s _ hds;rw[←hv]at b2;constructor
  ·rcases a1 with a1 | ⟨a1,_,a3⟩
   ·exact .inl a1
   ·rcases a2 with a2 | ⟨_,_,a4⟩
    ·simp only at a1 a2;omega
    ·refine .inr ⟨a1,h0,fun e he=>?_⟩
     rcases hin e he with q | q
     ·exact a3 e q
     ·exact a4 e q
  ·rcases b1 with b1 | ⟨b1,b3⟩
   ·exact .inl b1
   ·rcases b2 with⟨b2,_⟩ | ⟨_,b4⟩
    ·simp only at b1 b2;omega
    ·refine .inr ⟨b1,fun x hx=>?_⟩
     obtain⟨rfl,e,he,rfl⟩:=cL hx;rcases hin e he with q | q
     ·exact b3 _ (aU.2 ⟨e,q,rfl⟩)
     ·exact b4 _ (aU.2 ⟨e,q,rfl⟩)
 have I1:=hI.setN (d':=(k,ces')) hdc good.1 good.2;have hp1:(setN f c (k,ces')).nodes p=some (2,pes):=by show upd f.nodes c _ p=_;rw[aC _ _ hpc];exact hp
 have I2:=I1.setN (d':=(2,pes')) hp1 ?_ (.inr ⟨rfl,fun x hx=>eM (hI.ht p _ hp) (hsub x hx)⟩)
 ·have hs2:(setN (setN f c (k,ces')) p (2,pes')).nodes s=some (k,ses):=by
   show upd (upd f.nodes c _) p _ s=_
   rw[aC _ _ (Ne.symm hps),aC _ _ (Ne.symm hcs)];exact hds
  have hks:∀x∈kids (k,ses),x<f.cur.length:=fun x=>h.kid_lt hds;have hkl:∀x∈kids (k,ses),(setN (setN f c (k,ces')) p (2,pes')).nodes x≠none:=fun x hx=>by
   obtain⟨d',hd'⟩:=h.kid_live hds hx;show upd (upd f.nodes c _) p _ x≠none
   by_cases e1:x=p
   ·rw[e1,aD];simp
   ·rw[aC _ _ e1]
    by_cases e2:x=c
    ·rw[e2,aD];simp
    ·rw[aC _ _ e2,hd'];simp
  refine(I2.letGo (b:=s) (h.lt hds) hs2 fun x hx=>⟨hks x hx,hkl x hx⟩).ic fun x hx=>?_;rw[hZ]at hx;have hx:x<f.cur.length:=hx;have e1:=gB (d':=(k,ces')) (h.lt hdc) hdc x;have e2:=gB (f:=setN f c (k,ces')) (d':=(2,pes')) (h.lt hp) hp1 x;have e3:=zI (f:=setN (setN f c (k,ces')) p (2,pes')) (b:=s) (h.lt hds) hs2 hks x;have e4:=hall x;have e5:=hk x;have e0:=h.D0 x hx;rw[e3,e2,e1];omega
 ·rcases h.kb p _ hp with q' | ⟨_,q1,q2⟩
  ·simp at q'
  ·exact .inr ⟨rfl,hpn,fun e he=>⟨hpp e he,(h.kb p _ hp).kid (hsub _ (aU.2 ⟨e,he,rfl⟩))⟩⟩
def fallF(f:fZ)(t r c:Nat):fZ:=setL (freeB f r) (.root t) c
theorem IC.fall{f:fZ}(h:IC f){t r:Nat}{e:E3}(htl:t<f.roots.length)(hr:(f.roots.getD t (0,0)).2.toNat=r)(hd:f.nodes r=some (2,[e]))(h1:cu f r=1):
  IC (fallF f t r (ch e))∧(fallF f t r (ch e)).nodes=upd f.nodes r none:=by
 refine⟨?_,rfl⟩;obtain⟨ht,hI⟩:=h.ip;have hk:kids (2,[e])=[ch e]:=by simp[gL]
 have hcn:ch e<f.cur.length:=h.kid_lt hd (by rw[hk];simp);have I1:=hI.freeB (h.lt hd);have hl:(freeB f r).cur.length=f.cur.length:=by simp[freeB]
 refine(I1.setRoot t (q:=ch e) (by rw[hl];exact hcn)).ic fun x hx=>?_;rw[bG,hl]at hx;have e1:=sU (h.lt hd) hd h1 x;have e2:=wT (f:=freeB f r) (L:=.root t) (b:=r) htl hr (ch e) x;have e3:(kids (2,[e])).count x=one (ch e) x:=by
  rw[hk];simp only[List.count_cons,List.count_nil,beq_iff_eq,one];omega
 have e0:=h.D0 x hx;show df (setL _ _ _) x=0
 rw[e2,e1,e3];omega
def kl(a b:ByteArray):Bool:=Op.bytesLess a.toList b.toList
theorem oX:∀l:List UInt8,Op.bytesLess l l=false
 | []=>rfl
 | a :: l=>by simp[Op.bytesLess,oX l,UInt8.lt_irrefl]
theorem aKN:∀l m k:List UInt8,Op.bytesLess l m=true→Op.bytesLess m k=true→Op.bytesLess l k=true
 | [],[],_,h,_=>by simp[Op.bytesLess]at h
 | [],b :: m,[],_,h=>by simp[Op.bytesLess]at h
 | [],b :: m,c :: k,_,_=>rfl
 | a :: l,[],_,h,_=>by simp[Op.bytesLess]at h
 | a :: l,b :: m,[],_,h=>by simp[Op.bytesLess]at h
 | a :: l,b :: m,c :: k,h,h'=>by
  simp only[Op.bytesLess,Bool.or_eq_true,decide_eq_true_eq,Bool.and_eq_true,beq_iff_eq]at h h' ⊢;rcases h with h | ⟨rfl,h⟩
  ·rcases h' with h' | ⟨rfl,h'⟩
   ·exact .inl (UInt8.lt_trans h h')
   ·exact .inl h
  ·rcases h' with h' | ⟨rfl,h'⟩
   ·exact .inl h'
   ·exact .inr ⟨rfl,aKN l m k h h'⟩
theorem aHN:∀l m:List UInt8,Op.bytesLess l m=false→l=m∨Op.bytesLess m l=true
 | [],[],_=>.inl rfl
 | [],b :: m,h=>by simp[Op.bytesLess]at h
 | a :: l,[],_=>.inr rfl
 | a :: l,b :: m,h=>by
  simp only[Op.bytesLess,Bool.or_eq_false_iff,decide_eq_false_iff_not,Bool.and_eq_false_iff,beq_eq_false_iff_ne]at h;obtain⟨h1,h2⟩:=h;by_cases e:a=b
  ·subst e
   rcases aHN l m (h2.resolve_left (fun q=>q rfl))with q | q
   ·exact .inl (by rw[q])
   ·exact .inr (by simp[Op.bytesLess,q])
  ·refine .inr ?_
   have:=UInt8.lt_of_le_of_ne (UInt8.not_lt.1 h1) (Ne.symm e)
   simp[Op.bytesLess,this]
theorem gP{a b:ByteArray}(h:a.toList=b.toList):a=b:=by
 rw[ByteArray.toList_eq,ByteArray.toList_eq]at h;cases a;cases b;congr;exact Array.toList_inj.1 h
theorem eD(a:ByteArray):kl a a=false:=oX _
theorem kG{a b c:ByteArray}(h:kl a b=true)(h':kl b c=true):kl a c=true:=aKN _ _ _ h h'
theorem kV{a b:ByteArray}(h:kl a b=false):a=b∨kl b a=true:=by
 rcases aHN _ _ h with q | q
 ·exact .inl (gP q)
 ·exact .inr q
theorem fH{a b:ByteArray}(h:kl a b=true):kl b a=false:=by
 cases e:kl b a with
 | false=>rfl
 | true=>have:=kG h e;rw[eD]at this;cases this
theorem lG{a b c:ByteArray}(h:kl b a=false)(h':kl b c=true):kl a c=true:=by
 rcases kV h with rfl | q
 ·exact h'
 ·exact kG q h'
theorem lF{a b c:ByteArray}(h:kl a b=true)(h':kl c b=false):kl a c=true:=by
 rcases kV h' with rfl | q
 ·exact h
 ·exact kG h q
theorem gN{a b c:ByteArray}(h:kl b a=false)(h':kl c b=false):kl c a=false:=by
 cases e:kl c a with
 | false=>rfl
 | true=>have:=lF e h;rw[h']at this;cases this
def loR(lo:OB)(k:ByteArray):Prop:=match lo with
 | none=>True
 | some l=>kl k l=false
def hiR(hi:OB)(k:ByteArray):Prop:=match hi with
 | none=>True
 | some u=>kl k u=true
def ky(es:List E3)(i:Nat):ByteArray:=(es.getD i e0).1
def kd(es:List E3)(i:Nat):Nat:=ch (es.getD i e0)
def Srt(es:List E3):Prop:=∀i j,i<j→j<es.length→kl (ky es i) (ky es j)=true
def nxt(es:List E3)(i:Nat)(hi:OB):OB:=if i+1<es.length then some (ky es (i+1))else hi
structure eA(es:List E3)(lo hi:OB):Prop where
 srt:Srt es
 lo:∀i,i<es.length→loR lo (ky es i)
 hi:∀i,i<es.length→hiR hi (ky es i)
 le5:es.length≤5
def sz(nodes:Nat→Option Nd)(b:Nat):Nat:=match nodes b with
 | some d=>d.2.length
 | none=>0
def Ok(nodes:Nat→Option Nd):Nat→Nat→OB→OB→Prop
 | 0,b,lo,hi=>∃es,nodes b=some (1,es)∧eA es lo hi∧∀i,i<es.length→(es.getD i e0).2.2=0
 | h+1,b,lo,hi=>∃es,nodes b=some (2,es)∧eA es lo hi∧es≠[]∧(∀i,i<es.length→(es.getD i e0).2.1=ByteArray.empty)∧
   ∀i,i<es.length→2≤sz nodes (kd es i)∧Ok nodes h (kd es i) (some (ky es i)) (nxt es i hi)
theorem aO{es:List E3}{i:Nat}(hi:i<es.length):kd es i∈kids (2,es):=gM hi
theorem Ok.frame{nodes nodes':Nat→Option Nd}{U:Nat→Prop}(hU:∀x d,U x→nodes x=some d→∀c∈kids d,U c)(he:∀x,U x→nodes' x=nodes x):
  ∀h b lo hi,U b→Ok nodes h b lo hi→Ok nodes' h b lo hi
 | 0,b,lo,hi,hb,h=>by
  obtain⟨es,h1,h2⟩:=h;exact⟨es,(he b hb).trans h1,h2⟩
 | h+1,b,lo,hi,hb,hk=>by
  obtain⟨es,h1,h2,h3,h4,h5⟩:=hk;refine⟨es,(he b hb).trans h1,h2,h3,h4,fun i hi'=>?_⟩;have hu:U (kd es i):=hU b _ hb h1 _ (aO hi');refine⟨?_,Ok.frame hU he h _ _ _ hu (h5 i hi').2⟩;unfold sz;rw[he _ hu];exact(h5 i hi').1
theorem Ok.sz_pos{nodes:Nat→Option Nd}{h b:Nat}{lo hi:OB}(k:Ok nodes h b lo hi):∃d,nodes b=some d∧(d.1=1∨d.1=2)∧d.2.length≤5∧Srt d.2∧(h=0↔d.1=1):=by
 cases h with
 | zero=>obtain⟨es,h1,h2,_⟩:=k;exact⟨_,h1,.inl rfl,h2.le5,h2.srt,by simp⟩
 | succ h=>obtain⟨es,h1,h2,_⟩:=k;exact⟨_,h1,.inr rfl,h2.le5,h2.srt,by simp⟩
theorem Ok.wide{nodes:Nat→Option Nd}:∀{h b:Nat} {lo hi lo' hi':OB},(∀k,loR lo k→loR lo' k)→(∀k,hiR hi k→hiR hi' k)→Ok nodes h b lo hi→Ok nodes h b lo' hi'
 | 0,b,lo,hi,lo',hi',hl,hh,k=>by
  obtain⟨es,h1,h2,h3⟩:=k;exact⟨es,h1,⟨h2.srt,fun i q=>hl _ (h2.lo i q),fun i q=>hh _ (h2.hi i q),h2.le5⟩,h3⟩
 | h+1,b,lo,hi,lo',hi',hl,hh,k=>by
  obtain⟨es,h1,h2,h3,h4,h5⟩:=k;refine⟨es,h1,⟨h2.srt,fun i q=>hl _ (h2.lo i q),fun i q=>hh _ (h2.hi i q),h2.le5⟩,h3,h4,fun i hi'=>⟨(h5 i hi').1,?_⟩⟩;refine Ok.wide (fun _ q=>q) ?_ (h5 i hi').2;unfold nxt;split
  ·exact fun _ q=>q
  ·exact hh
def aB(f:fZ)(t:Nat):Nat:=(f.roots.getD t (0,0)).2.toNat
theorem aP{f:fZ}{t:Nat}(h:t<f.roots.length):f.roots.getD t (0,0)∈f.roots:=by
 rw[gD,gE h];exact List.getElem_mem h
def aN(f:fZ)(t H:Nat):List Nat→Nat→Nat→OB→OB→Prop
 | [],b,h,lo,hi=>cu f (aB f t)=1∧b=aB f t∧h=H∧lo=none∧hi=none
 | q :: P,c,h,lo,hi=>∃lo0 hi0 es i,aN f t H P q (h+1) lo0 hi0∧f.nodes q=some (2,es)∧i<es.length∧cu f (kd es i)=1∧c=kd es i∧lo=some (ky es i)∧hi=nxt es i hi0
theorem aN.here{f:fZ}{t H:Nat}(h:cu f (aB f t)=1):aN f t H [] (aB f t) H none none:=⟨h,rfl,rfl,rfl,rfl⟩
theorem aN.down{f:fZ}{t H:Nat}{P:List Nat}{b h:Nat}{lo hi:OB}{es:List E3}{i:Nat}(p:aN f t H P b (h+1) lo hi)(hn:f.nodes b=some (2,es))(hi':i<es.length)(hc:cu f (kd es i)=1):aN f t H (b :: P) (kd es i) h (some (ky es i)) (nxt es i hi):=⟨lo,hi,es,i,p,hn,hi',hc,rfl,rfl,rfl⟩
theorem aN.ind{f:fZ}{t H:Nat}{motive:∀(P:List Nat) (b h:Nat) (lo hi:OB),aN f t H P b h lo hi→Prop}(here:∀h:cu f (aB f t)=1,motive [] (aB f t) H none none (aN.here h))
  (down:∀{P:List Nat} {b h:Nat} {lo hi:OB} {es:List E3} {i:Nat} (p:aN f t H P b (h+1) lo hi) (hn:f.nodes b=some (2,es)) (hi':i<es.length) (hc:cu f (kd es i)=1),motive P b (h+1) lo hi p→motive (b :: P) (kd es i) h (some (ky es i)) (nxt es i hi) (aN.down p hn hi' hc)):
  ∀{P:List Nat} {b h:Nat} {lo hi:OB} (p:aN f t H P b h lo hi),motive P b h lo hi p:=by
 intro P;induction P with
 | nil=>
  intro b h lo hi p;obtain⟨h1,rfl,rfl,rfl,rfl⟩:=p;exact here h1
 | cons q P ih=>
  intro b h lo hi p;obtain⟨lo0,hi0,es,i,p,h1,h2,h3,rfl,rfl,rfl⟩:=p;exact down p h1 h2 h3 (ih p)
section
variable {f : fZ} {t H : Nat}
theorem aN.named(h:IC f)(ht:t<f.roots.length){P:List Nat}{b hb:Nat}{lo hi:OB}(p:aN f t H P b hb lo hi):
  ∀y∈b :: P,cu f y=1∧(∀x d,f.nodes x=some d→y∈kids d→x∈P)∧(y=aB f t∨rc f.roots y=0):=by
 induction p using aN.ind with
 | here h1=>
  intro y hy;simp only[List.mem_cons,List.not_mem_nil,or_false]at hy;subst hy;exact⟨h1,fun x d hx hk=>absurd hk ((h.onlyRoot (aP ht) h1).2 x d hx),.inl rfl⟩
 | @down P b hh lo hi es i p hn hi' h1 ih=>
  intro y hy;rcases List.mem_cons.1 hy with rfl | hy
  ·have ho:=h.only h1 hn (aO hi')
   exact⟨h1,fun x d hx hk=>by rw[ho.2.2 x d hx hk];exact List.mem_cons_self,.inr ho.1⟩
  ·obtain⟨a1,a2,a3⟩:=ih y hy
   exact⟨a1,fun x d hx hk=>List.mem_cons_of_mem _ (a2 x d hx hk),a3⟩
theorem aN.high{ht':Nat→Nat}(hh:Hts f.nodes ht'){P:List Nat}{b hb:Nat}{lo hi:OB}(p:aN f t H P b hb lo hi):∀y∈P,ht' b<ht' y:=by
 induction p using aN.ind with
 | here h1=>intro y hy;simp at hy
 | @down P b hh' lo hi es i p hn hi' h1 ih=>
  intro y hy;have hk:=eM (hh b _ hn) (aO hi');rcases List.mem_cons.1 hy with rfl | hy
  ·omega
  ·have:=ih y hy;omega
theorem aN.ok{P:List Nat}{b hb:Nat}{lo hi:OB}(p:aN f t H P b hb lo hi)(ho:Ok f.nodes H (aB f t) none none):Ok f.nodes hb b lo hi∧(P≠[]→2≤sz f.nodes b):=by
 induction p using aN.ind with
 | here h1=>exact⟨ho,fun q=>absurd rfl q⟩
 | @down P b hh' lo hi es i p hn hi' h1 ih=>
  obtain⟨es',e1,_,_,_,e5⟩:=ih.1;rw[hn]at e1;cases e1;exact⟨(e5 i hi').2,fun _=>(e5 i hi').1⟩
theorem aN.live(h:IC f)(ht:t<f.roots.length){P:List Nat}{b hb:Nat}{lo hi:OB}(p:aN f t H P b hb lo hi):∀y∈b :: P,∃d,f.nodes y=some d:=fun y hy=>
 h.live (by rw[(p.named h ht y hy).1];omega)
theorem dW{es:List E3}{i j:Nat}(h1:(kids (2,es)).count (kd es i)=1)(hi:i<es.length)(hj:j<es.length)(e:kd es j=kd es i):j=i:=by
 rw[gL]at h1;have a1:(es.map ch).getD i 0=kd es i:=gK _ _ hi;have a2:(es.map ch).getD j 0=kd es i:=(gK _ _ hj).trans e;generalize kd es i=x at *;have hi:i <(es.map ch).length:=by simpa using hi
 have hj:j <(es.map ch).length:=by simpa using hj
 generalize es.map ch=l at *;by_cases hne:j=i
 ·exact hne
 ·exfalso
  have:=fW l i x hi
  rw[a1,cA,h1]at this;have h0:(delE l i).count x=0:=by omega
  refine List.count_eq_zero.1 h0 ?_;rw[gD,gE hj]at a2;simp only[Option.getD_some]at a2;rw[←a2];unfold delE;by_cases hlt:j<i
  ·exact List.mem_append_left _ (List.mem_take_iff_getElem.2 ⟨j,by omega,rfl⟩)
  ·refine List.mem_append_right _ (List.mem_drop_iff_getElem.2 ⟨j -(i+1),by omega,?_⟩)
   congr 1;omega
theorem aN.upd(h:IC f)(ht:t<f.roots.length){P:List Nat}{b hb:Nat}{lo hi:OB}(p:aN f t H P b hb lo hi)(ho:Ok f.nodes H (aB f t) none none){es:List E3}{k:Int}(hes:f.nodes b=some (k,es))
  {nodes':Nat→Option Nd} (C:Nat→Prop) (hC:∀x,C x→cu f x=1∧x∈kids (k,es)) (hN:∀x d,f.nodes x=some d→x≠b→¬C x→nodes' x=some d)
  (hok:Ok nodes' hb b lo hi) (hsz:P≠[]→2≤sz nodes' b):
  Ok nodes' H (aB f t) none none∧(∀u,u<f.roots.length→u≠t→nodes' (aB f u)=f.nodes (aB f u)∧∀hu,Ok f.nodes hu (aB f u) none none→Ok nodes' hu (aB f u) none none):=by
 obtain⟨ht',hh⟩:=h.ht;have hnm:=p.named h ht;have hhi:=p.high hh;let U:Nat→Prop:=fun x=>(∃d,f.nodes x=some d)∧x∉b :: P∧¬C x;have hUc:∀x d,U x→f.nodes x=some d→∀c∈kids d,U c:=fun x d ⟨_,hx2,hx3⟩ hx c hc=>by
  refine⟨h.kid_live hx hc,fun hm=>?_,fun hcc=>?_⟩
  ·exact hx2 (List.mem_cons_of_mem _ ((hnm c hm).2.1 x d hx hc))
  ·have:=(h.only (hC c hcc).1 hes (hC c hcc).2).2.2 x d hx hc
   exact hx2 (this▸List.mem_cons_self)
 have hUe:∀x,U x→nodes' x=f.nodes x:=fun x ⟨⟨d,hd⟩,hx2,hx3⟩=>by
  rw[hd];exact hN x d hd (fun e=>hx2 (e▸List.mem_cons_self)) hx3
 have fr:=Ok.frame hUc hUe;have hPn:∀x∈P,nodes' x=f.nodes x:=fun x hx=>by
  obtain⟨d,hd⟩:=p.live h ht x (List.mem_cons_of_mem _ hx);rw[hd];refine hN x d hd (fun e=>by have:=hhi x hx;rw[e]at this;omega) fun hc=>?_;have h1:=eM (ht:=ht') (v:=ht' b) (es:=es) (c:=x) (by
   have:=(cL (hC x hc).2).1;subst this;exact hh b _ hes) (by
   have:=(cL (hC x hc).2).1;subst this;exact(hC x hc).2)
  have:=hhi x hx;omega
 have hPk:∀x∈P,∀d,f.nodes x=some d→∀c∈kids d,U c∨c∈b :: P:=fun x hx d hd c hc=>by
  by_cases hm:c∈b :: P
  ·exact .inr hm
  ·refine .inl ⟨h.kid_live hd hc,hm,fun hcc=>?_⟩
   have:=(h.only (hC c hcc).1 hes (hC c hcc).2).2.2 x d hd hc
   have a:=hhi x hx;rw[this]at a;omega
 refine⟨?_,fun u hu hut=>?_⟩
 ·clear hnm hes hC hN
  clear_value U
  induction p using aN.ind with
  | here h1=>exact hok
  | @down P b hh' lo hi es i p hn hi' h1 ih=>
   have hbo:=p.ok ho;obtain⟨es',e1,e2,e3,e4,e5⟩:=hbo.1;rw[hn]at e1;cases e1;have hnb:nodes' b=some (2,es):=by rw[hPn b List.mem_cons_self,hn]
   have honly:=h.only h1 hn (aO hi');have hkid:∀j,j<es.length→j≠i→U (kd es j):=fun j hj hji=>by
    rcases hPk b List.mem_cons_self _ hn _ (aO hj)with q | q
    ·exact q
    ·exfalso
     rcases List.mem_cons.1 q with q | q
     ·exact hji (dW honly.2.1 hi' hj q)
     ·have a1:=eM (hh b _ hn) (aO hj)
      rcases List.mem_cons.1 q with q | q
      ·rw[q]at a1;omega
      ·have:=p.high hh _ q;omega
   refine ih ?_ ?_ ?_ ?_ ?_
   ·refine⟨es,hnb,e2,e3,e4,fun j hj=>?_⟩
    by_cases e:j=i
    ·subst e;exact⟨hsz (by simp),hok⟩
    ·refine⟨?_,fr _ _ _ _ (hkid j hj e) (e5 j hj).2⟩
     unfold sz;rw[hUe _ (hkid j hj e)];exact(e5 j hj).1
   ·intro hP
    have:=hbo.2 hP
    unfold sz at this ⊢;rw[hn]at this;rw[hnb];exact this
   ·exact p.high hh
   ·intro x hx;exact hPn x (List.mem_cons_of_mem _ hx)
   ·intro x hx d hd c hc
    rcases hPk x (List.mem_cons_of_mem _ hx) d hd c hc with q | q
    ·exact .inl q
    ·rcases List.mem_cons.1 q with q | q
     ·exfalso
      have:=honly.2.2 x d hd (q▸hc)
      have a:=p.high hh x hx;rw[this]at a;omega
     ·exact .inr q
 ·have hUu:U (aB f u):=?_
  ·exact⟨hUe _ hUu,fun k' hk'=>fr k' _ _ _ hUu hk'⟩
  refine⟨h.root_live (aP hu),fun hm=>?_,fun hcc=>?_⟩
  ·obtain⟨a1,a2,a3⟩:=hnm _ hm
   have hru:0<rc f.roots (aB f u):=List.count_pos_iff.2 (List.mem_map_of_mem (aP hu));rcases a3 with a3 | a3
   ·have h1:=(h.onlyRoot (aP hu) a1).1
    have hd1:=fW (f.roots.map fun r=>r.2.toNat) u (aB f u) (by simpa using hu);have g1:(f.roots.map fun r=>r.2.toNat).getD u 0=aB f u:=by simp[aB,gD,hu]
    have g2:(f.roots.map fun r=>r.2.toNat).getD t 0=aB f u:=by rw[a3];simp[aB,gD,ht]
    rw[g1,cA]at hd1;have h1':(f.roots.map fun r=>r.2.toNat).count (aB f u)=1:=h1;have h0:(delE (f.roots.map fun r=>r.2.toNat) u).count (aB f u)=0:=by omega
    refine List.count_eq_zero.1 h0 ?_;have htl:t <(f.roots.map fun r=>r.2.toNat).length:=by simpa using ht
    rw[gD,gE htl]at g2;simp only[Option.getD_some]at g2;rw[←g2];unfold delE;by_cases hlt:t<u
    ·exact List.mem_append_left _ (List.mem_take_iff_getElem.2 ⟨t,by omega,rfl⟩)
    ·refine List.mem_append_right _ (List.mem_drop_iff_getElem.2 ⟨t -(u+1),by omega,?_⟩)
     congr 1;omega
   ·omega
  ·have a:=(h.only (hC _ hcc).1 hes (hC _ hcc).2).1
   have hru:0<rc f.roots (aB f u):=List.count_pos_iff.2 (List.mem_map_of_mem (aP hu));omega
end
end Go.Proofs.YtaahkgkdpnnhhaaGreat.Fo
namespace Go.Proofs.YtaahkgkdpnnhhaaGreat.Fo
theorem rH{α:Type}(l:List α)(z:α)(p:α→Bool)(hm:∀i j,i<j→j<l.length→p (l.getD j z)=true→p (l.getD i z)=true):∀j,j<l.length→(p (l.getD j z)=true↔j <(l.filter p).length):=by
 induction l with
 | nil=>intro j hj;simp at hj
 | cons a l ih=>
  have ih':=ih fun i j hij hj h=>by
   have:=hm (i+1) (j+1) (by omega) (by simp;omega) (by simpa using h)
   simpa using this
  intro j hj;cases ha:p a with
  | true=>
   rw[List.filter_cons_of_pos ha,List.length_cons];cases j with
   | zero=>simp[ha]
   | succ j=>
    have:=ih' j (by simpa using hj)
    simp only[List.getD_cons_succ];rw[this];omega
  | false=>
   have hall:∀j,j<l.length→p (l.getD j z)=false:=fun j hj=>by
    cases e:p (l.getD j z)with
    | false=>rfl
    | true=>
     have:=hm 0 (j+1) (by omega) (by simp;omega) (by simpa using e)
     simp[ha]at this
   have hf:l.filter p=[]:=List.filter_eq_nil_iff.2 fun x hx=>by
    obtain⟨j,hj,rfl⟩:=List.mem_iff_getElem.1 hx;have:=hall j hj;rw[gD,gE hj]at this;simpa using this
   rw[List.filter_cons_of_neg (by simp[ha]),hf];cases j with
   | zero=>simp[ha]
   | succ j=>simp only[List.getD_cons_succ];rw[hall j (by simpa using hj)];simp
def cLe(es:List E3)(key:ByteArray):Nat:=(es.filter fun e=>!kl key e.1).length
def cLt(es:List E3)(key:ByteArray):Nat:=(es.filter fun e=>kl e.1 key).length
def bK(es:List E3)(key:ByteArray):Nat:=cLe es key-1
theorem xO(es:List E3)(key:ByteArray):cLe es key≤es.length:=List.length_filter_le ..
theorem kU(es:List E3)(key:ByteArray):cLt es key≤es.length:=List.length_filter_le ..
theorem fY{es:List E3}(hs:Srt es)(key:ByteArray){j:Nat}(hj:j<es.length):kl key (ky es j)=false↔j<cLe es key:=by
 have:=rH es e0 (fun e=>!kl key e.1) (fun i j hij hj h=>by
  have a:=hs i j hij hj;simp only[Bool.not_eq_true']at h ⊢;exact gN (fH a) h) j hj
 simp only[Bool.not_eq_true']at this;exact this
theorem gV{es:List E3}(hs:Srt es)(key:ByteArray){j:Nat}(hj:j<es.length):kl (ky es j) key=true↔j<cLt es key:=
 rH es e0 (fun e=>kl e.1 key) (fun i j hij hj h=>kG (hs i j hij hj) h) j hj
theorem eE{es:List E3}(key:ByteArray)(h:es≠[]):bK es key<es.length:=by
 have:=xO es key
 have:0<es.length:=List.length_pos_iff.2 h
 unfold bK;omega
theorem aIX{es:List E3}(hs:Srt es)(key:ByteArray){j:Nat}(hj:j<es.length)(h:bK es key<j):kl key (ky es j)=true:=by
 cases e:kl key (ky es j)with
 | true=>rfl
 | false=>have:=(fY hs key hj).1 e;unfold bK at h;omega
theorem aJK{es:List E3}(hs:Srt es)(key:ByteArray)(h0:kl key (ky es 0)=false)(hn:es≠[]):kl key (ky es (bK es key))=false:=by
 have h1:0<es.length:=List.length_pos_iff.2 hn;have h2:=(fY hs key h1).1 h0;exact(fY hs key (eE key hn)).2 (by unfold bK;omega)
theorem aCU{es:List E3}(hs:Srt es)(key:ByteArray){j:Nat}(hj:j<es.length)(h1:kl key (ky es j)=false)(h2:j+1<es.length→kl key (ky es (j+1))=true):bK es key=j:=by
 have a:=(fY hs key hj).1 h1;have b:cLe es key≤j+1:=by
  refine Nat.le_of_not_lt fun hlt=>?_;have hl:=xO es key;have:=(fY hs key (j:=j+1) (by omega)).2 hlt;rw[h2 (by omega)]at this;cases this
 unfold bK;omega
theorem jI{α:Type}(l:List α)(i:Nat)(e z:α)(hi:i≤l.length)(j:Nat):(insE l i e).getD j z=if j<i then l.getD j z else if j=i then e else l.getD (j-1) z:=by
 unfold insE;have hl:(l.take i).length=i:=by rw[List.length_take];omega
 simp only[gD];by_cases h1:j<i
 ·rw[if_pos h1,List.getElem?_append_left (by rw[hl];exact h1),List.getElem?_take,if_pos h1]
 ·rw[if_neg h1,List.getElem?_append_right (by rw[hl];omega),hl]
  by_cases h2:j=i
  ·subst h2;simp
  ·rw[if_neg h2]
   obtain⟨m,rfl⟩:∃m,j=i+(m+1):=⟨j-i-1,by omega⟩;rw[show i+(m+1)-i=m+1 from by omega,List.getElem?_cons_succ,List.getElem?_drop];congr 2
theorem iO{α:Type}(l:List α)(i:Nat)(e:α):(insE l i e).length=l.length+1:=by
 unfold insE;simp only[lP,List.length_cons,List.length_take,List.length_drop];omega
theorem gZ{α:Type}(l:List α)(i:Nat)(z:α)(hi:i≤l.length)(j:Nat):(delE l i).getD j z=if j<i then l.getD j z else l.getD (j+1) z:=by
 unfold delE;have hl:(l.take i).length=i:=by rw[List.length_take];omega
 simp only[gD];by_cases h1:j<i
 ·rw[if_pos h1,List.getElem?_append_left (by rw[hl];exact h1),List.getElem?_take,if_pos h1]
 ·rw[if_neg h1,List.getElem?_append_right (by rw[hl];omega),hl,List.getElem?_drop]
  congr 2;omega
theorem bI{α:Type}(l:List α)(i:Nat)(h:i<l.length):(delE l i).length=l.length-1:=by
 unfold delE;simp only[lP,List.length_take,List.length_drop];omega
theorem fV{α:Type}(l:List α)(m:Nat)(z:α){j:Nat}(h:j<m):(l.take m).getD j z=l.getD j z:=by
 simp only[gD,List.getElem?_take,if_pos h]
theorem eU{α:Type}(l:List α)(m:Nat)(z:α)(j:Nat):(l.drop m).getD j z=l.getD (m+j) z:=by
 simp only[gD,List.getElem?_drop]
theorem bA{α:Type}(l:List α)(i j:Nat)(v z:α)(hi:i<l.length):(l.set i v).getD j z=if j=i then v else l.getD j z:=by
 simp only[gD,List.getElem?_set];by_cases h:i=j
 ·subst h;simp[hi]
 ·rw[if_neg h,if_neg (Ne.symm h)]
theorem cV{α:Type}(l m:List α)(j:Nat)(z:α):(l++m).getD j z=if j<l.length then l.getD j z else m.getD (j-l.length) z:=by
 simp only[gD];by_cases h:j<l.length
 ·rw[if_pos h,List.getElem?_append_left h]
 ·rw[if_neg h,List.getElem?_append_right (by omega)]
