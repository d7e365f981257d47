import Derived.Test.YtaahkgkdpnnhhaaGreatFo33
set_option linter.all false
namespace Go.Proofs.YtaahkgkdpnnhhaaGreat.Fo
theorem xZ{f:fZ}{t H:Nat}(w:Wk f t H){P:List Nat}{b h:Nat}{lo hi:OB}(p:aN f t H P b (h+1) lo hi)(hV:VE f){key:ByteArray}(hl:loR lo key){g:fZ}{c:Nat}(hs:Fo.stepDown f b key=some (g,c)):VE g:=by
 obtain⟨es,hes,hnr,hne⟩:=p.inner w;obtain⟨w1,p1,r1⟩:=w.lowKey p hes key hl;have hV1:VE (setN f b (2,lowK es key)):=hV.setN b (VL.lowK (hV b _ hes) key);rw[pL hes]at hs;generalize hK:lowK es key=es1 at *;have hes1:(setN f b (2,es1)).nodes b=some (2,es1):=aD _ _ _;have hl1:es1.length=es.length:=by rw[←hK];exact cH es key
 have hne1:es1≠[]:=fun e=>hne (List.length_eq_zero_iff.1 (by rw[←hl1,e];rfl));have hil:bK es1 key<es1.length:=eE key hne1;cases hsh:shadow (setN f b (2,es1)) (.ent b (bK es1 key))with
 | none=>rw[hsh]at hs;cases hs
 | some gc=>
  obtain⟨g1,c1⟩:=gc;rw[hsh]at hs;have hV2:=hV1.shadow_ent w1.ic hes1 hil hsh;simp only at hs;split at hs
  ·split at hs
   ·cases hs
   ·cases hs
    exact hV2.splitF b (hV2.look b) _ _ _ (hV2.look c1) _ _ _
  ·cases hs;exact hV2
theorem tZ{t H:Nat}{key val:ByteArray}:∀{h:Nat} {f:fZ} (w:Wk f t H) {P:List Nat} {b:Nat} {lo hi:OB} (p:aN f t H P b h lo hi) (hl:loR lo key) (hh:hiR hi key) (h5:sz f.nodes b<5) (hV:VE f) {g:fZ} {th:Bool} (hs:Fo.putAt h f b key val=some (g,th)),VE g
 | 0,f,w,P,b,lo,hi,p,hl,hh,h5,hV,g,th,hs=>by
  obtain⟨es,hes,hn,hc⟩:=p.leaf w;unfold Fo.putAt at hs;rw[aE hes]at hs;simp only[sJ,Prod.mk.injEq]at hs;obtain⟨rfl,rfl⟩:=hs;exact hV.setN b (VL.putE (hV b _ hes) key val hc)
 | h+1,f,w,P,b,lo,hi,p,hl,hh,h5,hV,g,th,hs=>by
  unfold Fo.putAt at hs;cases hsd:Fo.stepDown f b key with
  | none=>rw[hsd]at hs;cases hs
  | some gc=>
   obtain⟨g1,c1⟩:=gc;rw[hsd]at hs;obtain⟨P',lo',hi',w1,p1,l1,l2,l3,l4,l5⟩:=w.stepDown p hl hh h5 hsd;exact tZ w1 p1 l1 l2 l3 (xZ w p hV hl hsd) hs
theorem aLE{f:fZ}{t H:Nat}{key val:ByteArray}(w:Wk f t H)(hV:VE f){g:fZ}{th:Bool}(hs:Fo.put f t H key val=some (g,th)):VE g:=by
 unfold Fo.put at hs;cases hsh:shadow f (.root t)with
 | none=>rw[hsh]at hs;cases hs
 | some gr=>
  obtain⟨g1,r1⟩:=gr;rw[hsh]at hs;simp only at hs;have hV1:=hV.shadow_root hsh;obtain⟨w1,p1,a1,a2,a3,a4,a5,a6⟩:=w.shadow_root hsh;obtain⟨⟨k,es⟩,hd⟩:=w1.ic.live (x:=r1) (by rw[a3];omega);have hcl:es.length≤5:=by
   obtain⟨d',d1,_,d2,_⟩:=((p1.ok w1.ok).1).sz_pos;rw[hd]at d1;cases d1;exact d2
  rw[aE hd]at hs;simp only at hs;by_cases hfull:es.length=5
  ·rw[if_pos hfull]at hs
   cases hgr:bM g1 t r1 with
   | none=>rw[hgr]at hs;cases hs
   | some kt=>
    obtain⟨g2,top⟩:=kt;rw[hgr]at hs;simp only at hs;unfold bM at hgr;rw[aE hd]at hgr;simp only at hgr;by_cases hl0:aF g1=0
    ·rw[if_pos hl0]at hgr;cases hgr
    ·rw[if_neg hl0]at hgr
     generalize hT:aF (takeAt (setN g1 r1 (k,es.take 3)) (aF g1) (k,es.drop 3))=tp at *;by_cases hl1:tp=0
     ·rw[if_pos hl1]at hgr;cases hgr
     ·rw[if_neg hl1]at hgr
      simp only[sJ,Prod.mk.injEq]at hgr;obtain⟨rfl,rfl⟩:=hgr;obtain⟨l1,l2,l3,l4⟩:=aQ hl0;obtain⟨m1,m2,m3,m4⟩:=aQ (hT▸hl1);rw[hT]at m1 m2 m3;have hcu:∀x,cu (takeAt (setN g1 r1 (k,es.take 3)) (aF g1) (k,es.drop 3)) x=if aF g1=x then 1 else cu g1 x:=fun x=>dT (f:=setN g1 r1 (k,es.take 3)) (k,es.drop 3) l2 x;rw[hcu]at m3;have htq:tp≠aF g1:=fun e=>by rw[if_pos e.symm]at m3;omega
      rw[if_neg (Ne.symm htq)]at m3;have m2':tp<g1.cur.length:=by simpa [takeAt,setN] using m2
      subst a1;obtain⟨w2,p2,b1,b2,b3⟩:=w1.grow a3 hd (m:=3) (by omega) (by omega) l1 l2 l3 m1 m2' m3 htq;exact tZ w2 p2 trivial trivial (by unfold sz;rw[b3];simp) (hV1.growF _ _ _ (hV1 _ _ hd) _ _ _ _ _) hs
  ·rw[if_neg hfull]at hs
   exact tZ w1 p1 trivial trivial (by unfold sz;rw[hd];simp only;omega) hV1 hs
theorem aAZ{f:fZ}{t H:Nat}(w:Wk f t H){P:List Nat}{b h:Nat}{lo hi:OB}(p:aN f t H P b (h+1) lo hi)(hV:VE f){key:ByteArray}(h2:2≤sz f.nodes b){g:fZ}{c:Nat}(hs:Fo.stepDel f b key=some (g,c)):VE g:=by
 obtain⟨es,hes,hnr,hne⟩:=p.inner w;have h2e:2≤es.length:=by unfold sz at h2;rw[hes]at h2;exact h2
 have hil:bK es key<es.length:=eE key hne;unfold Fo.stepDel at hs;rw[aE hes]at hs;simp only at hs;cases hsh:shadow f (.ent b (bK es key))with
 | none=>rw[hsh]at hs;cases hs
 | some gc=>
  obtain⟨g1,c1⟩:=gc;rw[hsh]at hs;have hV2:=hV.shadow_ent w.ic hes hil hsh;obtain⟨w1,p1,p2,⟨es',n1,n2,n3,n4⟩,_⟩:=w.shadow_ent p hes hil hsh;simp only at hs;rw[aE n1]at hs;simp only at hs;split at hs
  ·cases hs;exact hV2
  ·split at hs
   ·rename_i hn
    cases hf:fillNext g1 b (bK es key) c1 with
    | none=>rw[hf]at hs;cases hs
    | some k=>rw[hf]at hs;cases hs;exact hV2.fillNext w1.ic n1 hn hf
   ·rename_i hn
    cases hf:fillLast g1 b (bK es key) c1 with
    | none=>rw[hf]at hs;cases hs
    | some k=>rw[hf]at hs;cases hs;exact hV2.fillLast w1.ic n1 (by omega) (by omega) hf
theorem sC{t:Nat}{key:ByteArray}:∀{h H:Nat} {f:fZ} (w:Wk f t H) {P:List Nat} {b:Nat} {lo hi:OB} (p:aN f t H P b h lo hi) (h3:P≠[]→3≤sz f.nodes b) (hr:cD f t H) (hm:Mem f.nodes h b key) (hV:VE f) {g:fZ} (hs:Fo.delAt h f t b key=some g),VE g
 | 0,H,f,w,P,b,lo,hi,p,h3,hr,hm,hV,g,hs=>by
  obtain⟨es,hes,hn,hc⟩:=p.leaf w;unfold Fo.delAt at hs;rw[aE hes]at hs;simp only[sJ]at hs;subst hs;exact hV.setN b (VL.delE (hV b _ hes) _)
 | h+1,H,f,w,P,b,lo,hi,p,h3,hr,hm,hV,g,hs=>by
  unfold Fo.delAt at hs;cases hsd:Fo.stepDel f b key with
  | none=>rw[hsd]at hs;cases hs
  | some gc=>
   obtain⟨g1,c⟩:=gc;rw[hsd]at hs;simp only at hs;have h2:2≤sz f.nodes b:=by
    by_cases hP:P=[]
    ·rcases p.top with⟨_,q,q'⟩ | ⟨q,_⟩
     ·rcases hr with hr | hr
      ·omega
      ·rw[←q]at hr;exact hr
     ·subst hP;cases q
    ·have:=h3 hP;omega
   have hV1:=aAZ w p hV h2 hsd;have st:=w.stepDel p hr h3 hm hsd;obtain⟨lo',hi',pc⟩:=st.path;rcases st.many with⟨es,n1,n2⟩ | ⟨hP,e,n1,n2⟩
   ·rw[aE n1]at hs
    simp only at hs
    rw[if_neg (by omega)]at hs;have hrt:cD g1 t H:=by
     rcases st.rt hr with q | ⟨_,e,q,_⟩
     ·exact q
     ·rw[n1]at q;cases q;simp at n2
    exact sC st.wk pc (fun _=>st.spare) hrt st.mem hV1 hs
   ·rw[aE n1]at hs
    rw[if_pos (show([e]:List E3).length=1 from rfl)]at hs;have hkd:kd [e] 0=ch e:=rfl;rw[hkd]at hs;subst hP;rcases st.up.top with⟨_,q,q'⟩ | ⟨q,_⟩
    ·subst q'
     rw[q]at n1;have hc1:cu g1 (aB g1 t)=1:=by have:=(st.up.named st.wk.ic st.wk.tl b List.mem_cons_self).1;rw[q]at this;exact this
     have hc2:cu g1 (ch e)=1:=by rw[n2];exact(pc.named st.wk.ic st.wk.tl c List.mem_cons_self).1
     obtain⟨v1,v2,v3,v4,v5,v6⟩:=st.wk.fall n1 hc1 hc2;rw[n2]at v1 v2 v3 v4 v5 v6 hs;exact sC v1 v2 (fun q=>absurd rfl q) v4 (v6 key st.mem) (hV1.fallF _ _ _) hs
    ·cases q
theorem qI{f:fZ}{t H:Nat}{key:ByteArray}(w:Wk f t H)(hm:Mem f.nodes H (aB f t) key){g1:fZ}{r:Nat}(hsh:shadow f (.root t)=some (g1,r)):Mem g1.nodes H r key:=by
 obtain⟨w1,p1,a1,a2,a3,a4,a5,a6⟩:=w.shadow_root hsh;unfold shadow at hsh;have hg:bJ f (.root t)=aB f t:=rfl;rw[hg]at hsh;by_cases ho:own f (aB f t)
 ·rw[if_pos ho]at hsh;cases hsh;exact hm
 ·rw[if_neg ho]at hsh
  by_cases hl:aF f=0
  ·rw[if_pos hl]at hsh;cases hsh
  ·rw[if_neg hl]at hsh
   simp only[sJ,Prod.mk.injEq]at hsh;obtain⟨hg1,hr1⟩:=hsh;obtain⟨l1,l2,l3,_⟩:=aQ hl;obtain⟨d,hd⟩:=w.ic.root_live (aP w.tl);have hd':f.nodes (aB f t)=some d:=hd;obtain⟨I1,I2,_⟩:=w.ic.shadow (L:=.root t) w.tl rfl hd l1 l2 l3;have hqd:f.nodes (aF f)=none:=(w.ic.dom.dead _).2 l3;have hI2:g1.nodes=if cu f (aB f t)=1 then upd (upd f.nodes (aF f) (some d)) (aB f t) none else upd f.nodes (aF f) (some d):=by rw[←hg1];exact I2
   let U:Nat→Prop:=fun x=>(∃d,f.nodes x=some d)∧(cu f (aB f t)=1→x≠aB f t)
   have hUc:∀x d,U x→f.nodes x=some d→∀c∈kids d,U c:=fun x d' _ hx c hc'=>
    ⟨w.ic.kid_live hx hc',fun h1 e=>(w.ic.onlyRoot (aP w.tl) h1).2 x d' hx (by have:c=(f.roots.getD t (0,0)).2.toNat:=e;rw[←this];exact hc')⟩
   have hUe:∀x,U x→g1.nodes x=f.nodes x:=fun x ⟨⟨d',hx⟩,h1⟩=>by
    have hxq:x≠aF f:=fun e=>by rw[e,hqd]at hx;cases hx
    rw[hI2];split
    ·rename_i hcu;rw[aC _ _ (h1 hcu),aC _ _ hxq]
    ·rw[aC _ _ hxq]
   have nr:g1.nodes r=some d:=by rw[a2];exact hd'
   rw[bN nr];rw[bN hd']at hm;obtain⟨k,des⟩:=d;exact hm.more (fun e he=>he) fun c hc' h' hm'=>Mem.frame hUc hUe _ _ ⟨w.ic.kid_live hd' hc',fun _ e=>w.ic.not_self hd' (e▸hc')⟩ hm'
theorem aDQ{f:fZ}{t H:Nat}{key:ByteArray}(w:Wk f t H)(hr:cD f t H)(hm:Mem f.nodes H (aB f t) key)(hV:VE f){g:fZ}(hs:bW f t H key=some g):VE g:=by
 unfold bW at hs;cases hsh:shadow f (.root t)with
 | none=>rw[hsh]at hs;cases hs
 | some gr=>
  obtain⟨g1,r⟩:=gr;rw[hsh]at hs;simp only at hs;obtain⟨w1,p1,a1,a2,a3,a4,a5,a6⟩:=w.shadow_root hsh;exact sC w1 p1 (fun q=>absurd rfl q) (a5 hr) (qI w hm hsh) (hV.shadow_root hsh) hs
theorem aHT{f:fZ}(hV:VE f)(t:Nat):VE (cS f t):=hV.sub fun _ _ q=>q
theorem aIO{f:fZ}(h:Inv f)(hV:VE f){t H:Nat}(ht:t<f.roots.length)(h1:1<f.roots.length)(hk:Ok f.nodes H (aB f t) none none):VE (drop f t H).1:=hV.sub fun x d q=>by
 obtain⟨_,_,_,_,_,_,_,_,_,hn⟩:=xA h ht h1 hk;rcases hn x with e | e
 ·rw[←e];exact q
 ·rw[e]at q;cases q
theorem aEY{f:fZ}(hV:VE f)(p:List Int):VE (dM f p):=hV.sub fun _ _ q=>q
theorem uA(n:Nat):VE (aH n):=fun x d hx=>by
 have hx':(if x=2 then some ((1:Int),([]:List E3))else none)=some d:=hx;split at hx'
 ·cases hx';exact VL.nil
 ·cases hx'
theorem zW{nodes:Nat→Option Nd}{key:ByteArray}:∀{h b:Nat} {lo hi:OB},Ok nodes h b lo hi→Mem nodes h b key→∃v,find nodes h b key=some v
 | 0,b,lo,hi,hk,hm=>by
  obtain⟨es,e1,e2,_⟩:=hk;obtain⟨es',f1,j,hj,f2⟩:=hm;rw[e1]at f1;cases f1;refine⟨(es.getD (cLt es key) e0).2.1,?_⟩;simp only[find,dN e1];rw[if_pos (jU e2.srt hj f2).1]
 | h+1,b,lo,hi,hk,hm=>by
  have hk':=hk;obtain⟨es,e1,e2,e3,e4,e5⟩:=hk;have hil:=eE key e3;obtain⟨v,hv⟩:=zW (e5 _ hil).2 (Mem.at e1 hk' hm);exact⟨v,by simp only[find,dN e1];exact hv⟩
theorem aEZ{f:fZ}{t H:Nat}{key val:ByteArray}(w:Wk f t H){g:fZ}{th:Bool}(hs:put f t H key val=some (g,th)):th=(find f.nodes H (aB f t) key).isSome:=by
 have h:=aFC w hs;cases hf:find f.nodes H (aB f t) key with
 | none=>
  cases th with
  | false=>rfl
  | true=>
   obtain⟨v,hv⟩:=zW w.ok (h.1 rfl);rw[hf]at hv;cases hv
 | some v=>rw[h.2 (kS w.ok hf)];rfl
theorem aEL{f:fZ}{L:List Nat}(hn:L.Nodup)(h:∀x,x∈L↔x<f.cur.length∧0<cu f x∧co f x=0):L.length=dY f:=
 ((List.perm_ext_iff_of_nodup hn (mF f _)).2 fun x=>by rw[h x,lE]).length_eq
theorem vS(f:fZ):dY f≤f.cur.length:=kZ f _
