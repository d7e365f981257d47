import Derived.Test.YtaahkgkdpnnhhaaGreatFo17
set_option linter.all false
namespace Go.Proofs.YtaahkgkdpnnhhaaGreat.Fo
theorem Wk.fillLast{g:fZ}{t H:Nat}(w:Wk g t H){P:List Nat}{b h:Nat}{lo hi:OB}(p:aN g t H P b (h+1) lo hi){es:List E3}(hes:g.nodes b=some (2,es)){a:Nat}(hi':a+1<es.length)(hla:¬a+1+1<es.length){k:Int}{ces:List E3}(hc:g.nodes (kd es (a+1))=some (k,ces))(cc:cu g (kd es (a+1))=1)(hcl:ces.length=2){key:ByteArray}(hm:Mem g.nodes h (kd es (a+1)) key)(h3:P≠[]→3≤es.length)
  {f':fZ} (hs:fillLast g b (a+1) (kd es (a+1))=some f'):Stp g f' t H P b h lo hi (kd es (a+1)) key:=by
 have hck:=aO hi';have hsk:=aO (show a<es.length by omega);obtain⟨es0,q1,e2,e3,e4,e5⟩:=(p.ok w.ok).1;rw[hes]at q1;cases q1;have hOc:=(dK hc).1 (e5 (a+1) hi').2;obtain⟨⟨k',ses⟩,hd⟩:=w.ic.kid_live hes hsk;have hOs:=(dK hd).1 (e5 a (by omega)).2;have hkk:k'=k:=by
  cases h with
  | zero=>have a1:=hOc.1;have a2:=hOs.1;simp only at a1 a2;omega
  | succ h=>have a1:=hOc.1;have a2:=hOs.1;simp only at a1 a2;omega
 subst hkk;have hsl:2≤ses.length:=by have:=(e5 a (by omega)).1;unfold sz at this;rw[hd]at this;exact this
 have hs5:ses.length≤5:=hOs.node.le5;have hcs:kd es (a+1)≠kd es a:=fun e=>by
  have:=dW (w.ic.only cc hes hck).2.1 hi' (by omega) e.symm;omega
 have hc0:ces≠[]:=fun e=>by rw[e]at hcl;simp at hcl
 unfold Fo.fillLast at hs;rw[aE hes]at hs;simp only[Nat.add_sub_cancel]at hs;rw[aE hd]at hs;simp only at hs;by_cases hsp:2<ses.length
 ·rw[if_pos hsp]at hs
  cases hsh:shadow g (.ent b a)with
  | none=>rw[hsh]at hs;cases hs
  | some ks=>
   obtain⟨g2,s⟩:=ks;rw[hsh]at hs;simp only[sJ]at hs;obtain⟨w2,p2,p3,⟨es2,m1,m2,m3,m4⟩,m5,m6,m7,m8,m9⟩:=w.shadow_ent p hes (show a<es.length by omega) hsh;obtain⟨s1,s2,s3⟩:=w.shadow_sib p hes (show a<es.length by omega) hsh;obtain⟨x1,x2,x3⟩:=s2 _ hck hcs;have hkc:kd es2 (a+1)=kd es (a+1):=by unfold kd;rw[(s3 es2 m1 (a+1)).2 (by omega)]
   have hc2:g2.nodes (kd es2 (a+1))=some (k',ces):=by rw[hkc,x1];exact hc
   have hd2:g2.nodes (kd es2 a)=some (k',ses):=by rw[m4,m5];exact hd
   obtain⟨es3,q1,_,_,_,e5'⟩:=(p2.ok w2.ok).1;rw[m1]at q1;cases q1;have hOc2:=(dK hc2).1 (e5' (a+1) (by omega)).2;have hOs2:=(dK hd2).1 (e5' a (by omega)).2;rw[cI _ (by omega)]at hOs2;have hd2':g2.nodes s=some (k',ses):=by rw[←m4];exact hd2
   have hc2':g2.nodes (kd es (a+1))=some (k',ces):=by rw[←hkc];exact hc2
   rw[aE hc2',aE hd2',aE m1]at hs;simp only at hs;have mv:=w2.move p2 m1 (a:=a) (by omega) hd2 hc2 (by rw[m4];exact m6) (by rw[hkc,x2];exact cc) (les':=ses.take (ses.length-1)) (res':=ses.drop (ses.length-1)++ces) (mid:=ky ses (ses.length-1))
    (hOs2.take (by omega) (by omega))
    ((hOs2.drop (by omega)).join hOc2 (eD _) (nJ (by omega)) hc0 (by rw[List.length_drop];omega)) (by rw[len_take' (by omega)];omega) (by rw[lP,List.length_drop];omega)
    (fun x=>by rw[oC,List.count_append];have:=kL k' ses (ses.length-1) x;omega)
    (fun e he=>by
     rcases he with he | he
     ·exact .inl (List.mem_of_mem_take he)
     ·rcases List.mem_append.1 he with he | he
      ·exact .inl (List.mem_of_mem_drop he)
      ·exact .inr he)
   rw[m4,hkc]at mv;simp only at mv;rw[hs]at mv;obtain⟨v1,v2,v3,v4,v5,v6,v7,v8,v9⟩:=mv;have hlen2:(es2.set (a+1) (ky ses (ses.length-1),(es2.getD (a+1) e0).2)).length=es.length:=by simp[m2]
   refine⟨v1,m9.trans (hs▸aW.moveF ..),⟨_,_,v6⟩,v4,?_,?_,fun hr=>.inl (v2 (m8 hr)),.inl ⟨_,v3,by rw[hlen2];omega⟩⟩
   ·unfold sz;rw[v8];simp only[lP,List.length_drop];omega
   ·rw[bN v8]
    have hm2:=x3 key h hm;rw[bN hc2']at hm2;exact hm2.more (fun e he=>List.mem_append_right _ he) fun c hc' h' hm'=>v9 key c (.inr hc') h' hm'
 ·rw[if_neg hsp,aE hc]at hs
  simp only[sJ]at hs;have hl1:(es.set (a+1) (ky es a,(es.getD (a+1) e0).2)).length=es.length:=by simp
  have hg1:∀j,(es.set (a+1) (ky es a,(es.getD (a+1) e0).2)).getD j e0=if j=a+1 then(ky es a,(es.getD (a+1) e0).2)else es.getD j e0:=fun j=>bA _ _ _ _ _ hi';have hgd:∀j,(delE (es.set (a+1) (ky es a,(es.getD (a+1) e0).2)) a).getD j e0=if j<a then es.getD j e0 else if j=a then(ky es a,(es.getD (a+1) e0).2)else es.getD (j+1) e0:=fun j=>by
   rw[gZ _ _ _ (by rw[hl1];omega)];by_cases q:j<a
   ·rw[if_pos q,if_pos q,hg1,if_neg (by omega)]
   ·rw[if_neg q,if_neg q,hg1]
    by_cases q':j=a
    ·rw[if_pos (by omega),if_pos q']
    ·rw[if_neg (by omega),if_neg q']
  have hks:kids (2,es.set (a+1) (ky es a,(es.getD (a+1) e0).2))=kids (2,es):=by
   rw[gL,gL];refine List.ext_getElem? fun j=>?_;simp only[List.getElem?_map,List.getElem?_set];split
   ·rename_i e;subst e
    rw[gD,gE hi'];simp[hi',ch]
   ·rfl
  have mg:=w.merge p hes (a:=a) hi' (es':=delE (es.set (a+1) (ky es a,(es.getD (a+1) e0).2)) a) (.inr ⟨rfl,rfl,rfl,rfl⟩) hc hd cc (by omega) (by rw[bI _ _ (by rw[hl1];omega),hl1];omega)
   (fun j=>by
    rw[show ky (delE (es.set (a+1) (ky es a,(es.getD (a+1) e0).2)) a) j=((delE (es.set (a+1) (ky es a,(es.getD (a+1) e0).2)) a).getD j e0).1 from rfl,hgd];by_cases q:j<a
    ·rw[if_pos q,if_pos (by omega)];rfl
    ·rw[if_neg q]
     by_cases q':j=a
     ·rw[if_pos q',if_pos (by omega),q']
     ·rw[if_neg q',if_neg (by omega)];rfl)
   (fun j=>by
    unfold kd;rw[hgd];by_cases q:j<a
    ·rw[if_pos q,if_pos q]
    ·rw[if_neg q,if_neg q]
     by_cases q':j=a
     ·rw[if_pos q',if_pos q'];rfl
     ·rw[if_neg q',if_neg q'])
   (fun j hj=>by
    rw[bI _ _ (by rw[hl1];omega),hl1]at hj;rw[hgd];split
    ·exact e4 j (by omega)
    ·split
     ·exact e4 _ hi'
     ·exact e4 _ (by omega))
   (fun x=>by
    have:=uX (es.set (a+1) (ky es a,(es.getD (a+1) e0).2)) a x (by rw[hl1];omega)
    rw[hg1,if_neg (by omega),hks]at this;exact this)
   (fun e he=>by
    obtain⟨j,hj,rfl⟩:=dP (oM he);rw[hg1];split
    ·exact w.ic.child_pos hes hi'
    ·exact w.ic.child_pos hes (by rw[hl1]at hj;exact hj)) h3
  simp only at mg
  rw[hs]at mg;obtain⟨v1,v2,v3,v4,v5,v6,v7⟩:=mg;have hld:(delE (es.set (a+1) (ky es a,(es.getD (a+1) e0).2)) a).length=es.length-1:=by rw[bI _ _ (by rw[hl1];omega),hl1]
  have hlast:(∃es',f'.nodes b=some (2,es')∧2≤es'.length)∨(P=[]∧∃e,f'.nodes b=some (2,[e])∧ch e=kd es (a+1)):=by
   by_cases q:3≤es.length
   ·exact .inl ⟨_,v3,by rw[hld];omega⟩
   ·refine .inr ⟨by by_cases hP:P=[];exact hP;exact absurd (h3 hP) q,(ky es a,(es.getD (a+1) e0).2),?_,rfl⟩
    rw[v3];have hl:es.length=2:=by omega
    obtain rfl:a=0:=by omega
    match es,hl with
    | [x,y],_=>rfl
  refine⟨v1,hs▸aW.mergeF ..,⟨_,_,v5⟩,v4,?_,?_,fun hr=>?_,hlast⟩
  ·unfold sz;rw[v6];simp only[lP];omega
  ·rw[bN v6]
   rw[bN hc]at hm;exact hm.more (fun e he=>List.mem_append_right _ he) fun c hc' h' hm'=>v7 key c hc' h' hm'
  ·by_cases q:3≤es.length
   ·exact .inl (v2 q hr)
   ·rcases hlast with⟨es',n1,n2⟩ | q'
    ·rw[v3]at n1;cases n1;rw[hld]at n2;omega
    ·exact .inr q'
theorem Stp.before{f f1 g:fZ}{t H:Nat}{P:List Nat}{b h:Nat}{lo hi:OB}{c:Nat}{key:ByteArray}(s:Stp f1 g t H P b h lo hi c key)(hs:aW f f1)(hr:cD f t H→cD f1 t H):Stp f g t H P b h lo hi c key:=
 ⟨s.wk,hs.trans s.same,s.path,s.up,s.spare,s.mem,fun q=>s.rt (hr q),s.many⟩
theorem Wk.stepDel{f:fZ}{t H:Nat}(w:Wk f t H){P:List Nat}{b h:Nat}{lo hi:OB}(p:aN f t H P b (h+1) lo hi){key:ByteArray}(hr:cD f t H)(h3:P≠[]→3≤sz f.nodes b)(hm:Mem f.nodes (h+1) b key){g:fZ}{c:Nat}(hs:stepDel f b key=some (g,c)):Stp f g t H P b h lo hi c key:=by
 obtain⟨es,hes,hnr,hne⟩:=p.inner w;have hm1:=Mem.at hes (p.ok w.ok).1 hm;have h2:2≤es.length:=by
  by_cases hP:P=[]
  ·rcases p.top with⟨_,q,q'⟩ | ⟨q,_⟩
   ·rcases hr with hr | hr
    ·omega
    ·rw[←q]at hr;unfold sz at hr;rw[hes]at hr;exact hr
   ·rw[hP]at q;cases q
  ·have:=h3 hP;unfold sz at this;rw[hes]at this;simp only at this;omega
 have h3':P≠[]→3≤es.length:=fun hP=>by have:=h3 hP;unfold sz at this;rw[hes]at this;exact this
 unfold Fo.stepDel at hs;rw[aE hes]at hs;simp only at hs;have hil:=eE key hne;generalize bK es key=i at *;cases hsh:shadow f (.ent b i)with
 | none=>rw[hsh]at hs;cases hs
 | some gc=>
  obtain⟨g1,c1⟩:=gc;rw[hsh]at hs;simp only at hs;obtain⟨w2,p2,p3,⟨es2,m1,m2,m3,m4⟩,m5,m6,m7,m8,m9⟩:=w.shadow_ent p hes hil hsh;obtain⟨s1,s2,s3⟩:=w.shadow_sib p hes hil hsh;obtain⟨⟨k,ces⟩,hd⟩:=w2.ic.live (x:=c1) (by rw[m6];omega);have hcz:2≤ces.length:=by
   have:=(p3.ok w2.ok).2 (by simp);unfold sz at this;rw[hd]at this;exact this
  rw[aE hd,aE m1]at hs;simp only at hs;have hmc:=s1 key h hm1;by_cases q:2<ces.length
  ·rw[if_pos q]at hs
   simp only[sJ,Prod.mk.injEq]at hs;obtain⟨rfl,rfl⟩:=hs;exact⟨w2,m9,⟨_,_,p3⟩,p2,by unfold sz;rw[hd];exact q,hmc,fun q=>.inl (m8 q),.inl ⟨es2,m1,by omega⟩⟩
  ·rw[if_neg q]at hs
   subst m4;by_cases q':i+1<es2.length
   ·rw[if_pos q']at hs
    cases hf:Fo.fillNext g1 b i (kd es2 i)with
    | none=>rw[hf]at hs;cases hs
    | some f'=>
     rw[hf]at hs;simp only[Option.map_some,sJ,Prod.mk.injEq]at hs;obtain⟨rfl,rfl⟩:=hs;exact(w2.fillNext p2 m1 q' hd m6 (by omega) hmc (fun hP=>by rw[m2];exact h3' hP) hf).before m9 m8
   ·rw[if_neg q']at hs
    cases hf:Fo.fillLast g1 b i (kd es2 i)with
    | none=>rw[hf]at hs;cases hs
    | some f'=>
     rw[hf]at hs;simp only[Option.map_some,sJ,Prod.mk.injEq]at hs;obtain⟨rfl,rfl⟩:=hs;obtain⟨a,rfl⟩:∃a,i=a+1:=⟨i-1,by omega⟩;exact(w2.fillLast p2 m1 (by omega) q' hd m6 (by omega) hmc (fun hP=>by rw[m2];exact h3' hP) hf).before m9 m8
theorem aEN{es:List E3}{lo hi:OB}(h:eA es lo hi){a:Nat}(ha:a<es.length):eA (delE es a) lo hi:=by
 have hky:∀j,ky (delE es a) j=if j<a then ky es j else ky es (j+1):=fun j=>by
  unfold ky;rw[gZ _ _ _ (by omega)];split<;>rfl
 have hl:=bI es a ha;refine⟨fun i j hij hj=>?_,fun j hj=>?_,fun j hj=>?_,by have:=h.le5;omega⟩
 ·rw[hky,hky]
  by_cases q:i<a
  ·rw[if_pos q];split
   ·exact h.srt i j hij (by omega)
   ·exact h.srt i _ (by omega) (by omega)
  ·rw[if_neg q,if_neg (by omega)];exact h.srt _ _ (by omega) (by omega)
 ·rw[hky];split
  ·exact h.lo j (by omega)
  ·exact h.lo _ (by omega)
 ·rw[hky];split
  ·exact h.hi j (by omega)
  ·exact h.hi _ (by omega)
theorem jU{es:List E3}(hs:Srt es){key:ByteArray}{j:Nat}(hj:j<es.length)(e:ky es j=key):fG es key=true∧cLt es key=j:=by
 have a:cLt es key=j:=by
  have h1:¬j<cLt es key:=fun q=>by
   have:=(gV hs key hj).2 q;rw[e,eD]at this;cases this
  have h2:∀i,i<j→i<cLt es key:=fun i hi=>(gV hs key (by omega)).1 (by rw[←e];exact hs i j hi hj);by_cases q:j=0
  ·omega
  ·have:=h2 (j-1) (by omega);omega
 exact⟨(dF es key).2 ⟨by omega,by rw[a];exact e⟩,a⟩
theorem rM{t:Nat}{key:ByteArray}:∀{h H:Nat} {f:fZ} (w:Wk f t H) {P:List Nat} {b:Nat} {lo hi:OB} (p:aN f t H P b h lo hi) (h3:P≠[]→3≤sz f.nodes b) (hr:cD f t H) (hm:Mem f.nodes h b key) {g:fZ} (hs:delAt h f t b key=some g),
  ∃H',Wk g t H'∧cD g t H'∧aW f g
 | 0,H,f,w,P,b,lo,hi,p,h3,hr,hm,g,hs=>by
  obtain⟨es,hes,hn,hc⟩:=p.leaf w;obtain⟨es',q1,j,hj,hk⟩:=hm;rw[hes]at q1;cases q1;unfold delAt at hs;rw[aE hes]at hs;simp only[sJ]at hs;subst hs;have ha:cLt es key<es.length:=by rw[(jU hn.srt hj hk).2];exact hj
  obtain⟨a1,a2⟩:=w.leaf p hes (aEN hn ha) (fun i hi'=>by
   rw[bI _ _ ha]at hi';rw[gZ _ _ _ (by omega)];split
   ·exact hc i (by omega)
   ·exact hc _ (by omega)) (fun hP=>by
   have:=h3 hP;unfold sz at this;rw[hes]at this;simp only at this
   rw[bI _ _ ha];omega)
  exact⟨H,a1,a2 hr,aW.setN _ _ _⟩
 | h+1,H,f,w,P,b,lo,hi,p,h3,hr,hm,g,hs=>by
  unfold delAt at hs;cases hsd:stepDel f b key with
  | none=>rw[hsd]at hs;cases hs
  | some gc=>
   obtain⟨g1,c⟩:=gc;rw[hsd]at hs;simp only at hs;have st:=w.stepDel p hr h3 hm hsd;obtain⟨lo',hi',pc⟩:=st.path;rcases st.many with⟨es,n1,n2⟩ | ⟨hP,e,n1,n2⟩
   ·rw[aE n1]at hs
    simp only at hs
    rw[if_neg (by omega)]at hs;have hrt:cD g1 t H:=by
     rcases st.rt hr with q | ⟨_,e,q,_⟩
     ·exact q
     ·rw[n1]at q;cases q;simp at n2
    obtain⟨H',a1,a2,a3⟩:=rM st.wk pc (fun _=>st.spare) hrt st.mem hs;exact⟨H',a1,a2,st.same.trans a3⟩
   ·rw[aE n1]at hs
    rw[if_pos (show([e]:List E3).length=1 from rfl)]at hs;have hkd:kd [e] 0=ch e:=rfl;rw[hkd]at hs;subst hP;rcases st.up.top with⟨_,q,q'⟩ | ⟨q,_⟩
    ·subst q'
     rw[q]at n1;have hc1:cu g1 (aB g1 t)=1:=by have:=(st.up.named st.wk.ic st.wk.tl b List.mem_cons_self).1;rw[q]at this;exact this
     have hc2:cu g1 (ch e)=1:=by rw[n2];exact(pc.named st.wk.ic st.wk.tl c List.mem_cons_self).1
     obtain⟨v1,v2,v3,v4,v5,v6⟩:=st.wk.fall n1 hc1 hc2;rw[n2]at v1 v2 v3 v4 v5 v6 hs;obtain⟨H',a1,a2,a3⟩:=rM v1 v2 (fun q=>absurd rfl q) v4 (v6 key st.mem) hs;exact⟨H',a1,a2,(st.same.trans (aW.fallF ..)).trans a3⟩
    ·cases q
theorem vW{f:fZ}{t H:Nat}{key:ByteArray}(w:Wk f t H)(hr:cD f t H)(hm:Mem f.nodes H (aB f t) key){g:fZ}(hs:bW f t H key=some g):∃H',Wk g t H'∧cD g t H'∧aW f g:=by
 unfold bW at hs;cases hsh:shadow f (.root t)with
 | none=>rw[hsh]at hs;cases hs
 | some gr=>
  obtain⟨g1,r⟩:=gr;rw[hsh]at hs;simp only at hs;obtain⟨w1,p1,a1,a2,a3,a4,a5,a6⟩:=w.shadow_root hsh;have hm1:Mem g1.nodes H r key:=by
   unfold shadow at hsh;have hg:bJ f (.root t)=aB f t:=rfl;rw[hg]at hsh;by_cases ho:own f (aB f t)
   ·rw[if_pos ho]at hsh;cases hsh;exact hm
   ·rw[if_neg ho]at hsh
    by_cases hl:aF f=0
    ·rw[if_pos hl]at hsh;cases hsh
    ·rw[if_neg hl]at hsh
     simp only[sJ,Prod.mk.injEq]at hsh;obtain⟨hg1,hr1⟩:=hsh;obtain⟨l1,l2,l3,_⟩:=aQ hl;obtain⟨d,hd⟩:=w.ic.root_live (aP w.tl);have hd':f.nodes (aB f t)=some d:=hd;obtain⟨I1,I2,_⟩:=w.ic.shadow (L:=.root t) w.tl rfl hd l1 l2 l3;have hqd:f.nodes (aF f)=none:=(w.ic.dom.dead _).2 l3;have hI2:g1.nodes=if cu f (aB f t)=1 then upd (upd f.nodes (aF f) (some d)) (aB f t) none else upd f.nodes (aF f) (some d):=by rw[←hg1];exact I2
     let U:Nat→Prop:=fun x=>(∃d,f.nodes x=some d)∧(cu f (aB f t)=1→x≠aB f t)
     have hUc:∀x d,U x→f.nodes x=some d→∀c∈kids d,U c:=fun x d' _ hx c hc'=>
      ⟨w.ic.kid_live hx hc',fun h1 e=>(w.ic.onlyRoot (aP w.tl) h1).2 x d' hx (by have:c=(f.roots.getD t (0,0)).2.toNat:=e;rw[←this];exact hc')⟩
     have hUe:∀x,U x→g1.nodes x=f.nodes x:=fun x ⟨⟨d',hx⟩,h1⟩=>by
      have hxq:x≠aF f:=fun e=>by rw[e,hqd]at hx;cases hx
      rw[hI2];split
      ·rename_i hcu;rw[aC _ _ (h1 hcu),aC _ _ hxq]
      ·rw[aC _ _ hxq]
     have nr:g1.nodes r=some d:=by rw[a2];exact hd'
     rw[bN nr];rw[bN hd']at hm;obtain⟨k,des⟩:=d;exact hm.more (fun e he=>he) fun c hc' h' hm'=>Mem.frame hUc hUe _ _ ⟨w.ic.kid_live hd' hc',fun _ e=>w.ic.not_self hd' (e▸hc')⟩ hm'
  obtain⟨H',b1,b2,b3⟩:=rM w1 p1 (fun q=>absurd rfl q) (a5 hr) hm1 hs;exact⟨H',b1,b2,a6.trans b3⟩
def dec(f:fZ)(b:Nat):fZ:={f with cur:=f.cur.set b (cu f b-1)}
def delN(f:fZ)(b:Nat):fZ:={f with nodes:=upd f.nodes b none}
def unname:Nat→fZ→Nat→fZ×Int
 | 0,f,b=>if 0<cu f b-1 then(dec f b,0)else(delN (dec f b) b,1)
 | h+1,f,b=>if 0<cu f b-1 then(dec f b,0)else
  let r:=(bY (f.nodes b)).foldl (fun a k=>((unname h a.1 k).1,a.2+(unname h a.1 k).2)) (dec f b,1)
  (delN r.1 b,r.2)
def unL(h:Nat)(l:List Nat)(a:fZ×Int):fZ×Int:=l.foldl (fun a k=>((unname h a.1 k).1,a.2+(unname h a.1 k).2)) a
theorem kW(h k:Nat)(l:List Nat)(a:fZ×Int):unL h (k :: l) a=unL h l ((unname h a.1 k).1,a.2+(unname h a.1 k).2):=rfl
def sN:Nat→fZ→Nat→Prop
 | 0,f,b=>b<f.cur.length∧∃d,f.nodes b=some d∧(cu f b-1≤0→kids d=[])
 | h+1,f,b=>b<f.cur.length∧∃d,f.nodes b=some d∧(cu f b-1≤0→∀l k m,kids d=l++k :: m→sN h (unL h l (dec f b,1)).1 k)
structure Ab(f g:fZ)(A:Nat→Prop):Prop where
 cur:f.cur=g.cur
 roots:f.roots=g.roots
 off:∀x,¬A x→f.nodes x=g.nodes x
 on:∀x,A x→g.nodes x=none
 rest:f.com=g.com∧f.next=g.next∧f.gen=g.gen∧f.table=g.table
def fB(nodes:Nat→Option Nd)(n:Nat):Nat:=cM n fun x=>if(nodes x).isSome then 1 else 0
theorem rJ{nodes:Nat→Option Nd}{n b:Nat}{d:Nd}(hb:b<n)(hd:nodes b=some d):fB (upd nodes b none) n+1=fB nodes n:=by
 have:=lN (n:=n) (g:=fun x=>if(nodes x).isSome then 1 else 0) (g':=fun x=>if(upd nodes b none x).isSome then 1 else 0) hb (fun y hy=>by simp only[aC _ _ hy])
 simp only[aD,hd,Option.isSome_some,Option.isSome_none,if_true]at this;unfold fB;simpa using this
theorem nS{f g:fZ}{A:Nat→Prop}(h:Ab f g A)(x:Nat):cu f x=cu g x:=by unfold cu;rw[h.cur]
structure Un(h:Nat)(f g:fZ)(A:Nat→Prop)(ht:Nat→Nat)(l:List Nat)(E:Nat→Nat)(r:fZ×Int)(n0:Int):Prop where
 ex:∃g',Ab r.1 g' A∧IP g' ht∧(∀x,x<g'.cur.length→df g' x=((E x-l.count x:Nat):Int))∧g'.cur.length=g.cur.length∧(∀x,g'.nodes x=g.nodes x∨g'.nodes x=none)∧r.2=n0+((fB g.nodes g.cur.length:Int) -(fB g'.nodes g.cur.length:Int))∧g'.roots=g.roots∧g'.com=g.com∧g'.next=g.next∧g'.gen=g.gen∧g'.table=g.table
theorem aBP{h:Nat}(one_ok:∀{f g:fZ} {A:Nat→Prop} {ht:Nat→Nat} {E:Nat→Nat} {b:Nat},Ab f g A→IP g ht→(∀x,x<g.cur.length→df g x=(E x:Int))→b<g.cur.length→1≤E b→ht b=h→sN h f b∧Un h f g A ht [b] E (unname h f b) 0):
  ∀(l:List Nat) {f g:fZ} {A:Nat→Prop} {ht:Nat→Nat} {E:Nat→Nat} (n0:Int),Ab f g A→IP g ht→(∀x,x<g.cur.length→df g x=(E x:Int))→(∀b∈l,b<g.cur.length∧ht b=h)→(∀x,l.count x≤E x)→
   (∀l1 k m,l=l1++k :: m→sN h (unL h l1 (f,n0)).1 k)∧Un h f g A ht l E (unL h l (f,n0)) n0
 | [],f,g,A,ht,E,n0,ab,ip,hE,hl,hc=>⟨fun l1 k m e=>by simp at e,⟨g,ab,ip,fun x hx=>by simpa using hE x hx,rfl,fun _=>.inl rfl,by simp[unL],rfl,rfl,rfl,rfl,rfl⟩⟩
 | b :: l,f,g,A,ht,E,n0,ab,ip,hE,hl,hc=>by
  have hb:=hl b List.mem_cons_self;have hEb:1≤E b:=by have:=hc b;rw[List.count_cons]at this;simp at this;omega
  obtain⟨s1,⟨g',a1,a2,a3,a4,a5,a6,a7,a8,a9,a10,a11⟩⟩:=one_ok ab ip hE hb.1 hEb hb.2;have hc1:∀x,([b]:List Nat).count x=one b x:=fun x=>by simp only[List.count_cons,List.count_nil,beq_iff_eq,one];omega
  have hcl:∀x,(b :: l).count x=l.count x+one b x:=fun x=>by simp only[List.count_cons,beq_iff_eq,one]
  obtain⟨r1,⟨g2,b1,b2,b3,b4,b5,b6,b7,b8,b9,b10,b11⟩⟩:=aBP one_ok l (E:=fun x=>E x-one b x) (n0+(unname h f b).2) a1 a2 (fun x hx=>by rw[a3 x hx,hc1]) (fun x hx=>by rw[a4];exact hl x (List.mem_cons_of_mem _ hx)) (fun x=>by have:=hc x;rw[hcl]at this;omega);refine⟨fun l1 k m e=>?_,⟨g2,?_,b2,fun x hx=>?_,b4.trans a4,fun x=>?_,?_,b7.trans a7,b8.trans a8,b9.trans a9,b10.trans a10,b11.trans a11⟩⟩
  ·cases l1 with
   | nil=>simp only[List.nil_append,List.cons.injEq]at e;rw[←e.1];exact s1
   | cons y l1=>
    simp only[List.cons_append,List.cons.injEq]at e;obtain⟨rfl,e⟩:=e;rw[kW];exact r1 l1 k m e
  ·rw[kW];exact b1
  ·rw[b3 x hx,hcl];congr 1;omega
  ·rcases b5 x with q | q
   ·rw[q];exact a5 x
   ·exact .inr q
  ·rw[kW,b6,a6,a4];omega
theorem IP.decr{g:fZ}{ht:Nat→Nat}(h:IP g ht){b:Nat}(hb:b<g.cur.length)(h2:1<cu g b):IP (dec g b) ht:=by
 have hl:(dec g b).cur.length=g.cur.length:=by simp[dec]
 have hg:∀x,cu (dec g b) x=if b=x then cu g b-1 else cu g x:=fun x=>fD g b x _ hb;refine⟨by rw[hl];exact h.n8,by rw[hl];exact h.n512,by rw[hl];exact h.len,⟨fun x=>?_,fun x=>?_⟩,h.two,?_,?_,h.ht⟩
 ·rw[hg];split
  ·rename_i e;subst e
   have:=h.dom.dead b
   constructor
   ·intro q;have:=this.1 q;omega
   ·intro q;omega
  ·exact h.dom.dead x
 ·rw[hg];have:=h.dom.pos x;split<;>omega
 ·intro r hr;rw[hl];exact h.rb r hr
 ·intro x e hx;rw[hl];exact h.kb x e hx
theorem aKW{g:fZ}{b:Nat}(hb:b<g.cur.length)(x:Nat):df (dec g b) x=df g x -(one b x:Int):=by
 have hl:(dec g b).cur.length=g.cur.length:=by simp[dec]
 have hg:cu (dec g b) x=if b=x then cu g b-1 else cu g x:=fD g b x _ hb;unfold df;rw[hl,hg];show _ -((rc g.roots x+deg g.nodes g.cur.length x:Nat):Int)=_
 by_cases e:b=x
 ·subst e;rw[if_pos rfl,cA];omega
 ·rw[if_neg e,fT e];omega
theorem jP{h:Nat}{f g:fZ}{A:Nat→Prop}{ht:Nat→Nat}{E:Nat→Nat}{b:Nat}(ab:Ab f g A)(ip:IP g ht)(hE:∀x,x<g.cur.length→df g x=(E x:Int))(hb:b<g.cur.length)(hEb:1≤E b):
  ∃d,g.nodes b=some d∧¬A b∧f.nodes b=some d∧(0<cu g b-1→Un h f g A ht [b] E (dec f b,0) 0):=by
 have h1:=hE b hb;have hl:∃d,g.nodes b=some d:=by
  cases e:g.nodes b with
  | some d=>exact⟨d,rfl⟩
  | none=>have:=(ip.dom.dead b).1 e;unfold df at h1;omega
 obtain⟨d,hd⟩:=hl;have hA:¬A b:=fun q=>by have:=ab.on b q;rw[hd]at this;cases this
 refine⟨d,hd,hA,(ab.off b hA).trans hd,fun hc=>⟨dec g b,⟨?_,ab.roots,ab.off,ab.on,ab.rest⟩,ip.decr hb (by omega),fun x hx=>?_,by simp[dec],fun _=>.inl rfl,?_,rfl,rfl,rfl,rfl,rfl⟩⟩
 ·show f.cur.set b _=g.cur.set b _;rw[nS ab b,ab.cur]
 ·have hx':x<g.cur.length:=by simpa [dec] using hx
  rw[aKW hb,hE x hx'];simp only[List.count_nil,List.count_cons,beq_iff_eq,one];by_cases e:b=x
  ·subst e;simp;omega
  ·simp[e]
 ·show(0:Int)=0+_
  have e:(dec g b).nodes=g.nodes:=rfl;rw[e];omega
theorem kT{f g:fZ}{A:Nat→Prop}{ht:Nat→Nat}{E:Nat→Nat}{b:Nat}(ab:Ab f g A)(ip:IP g ht)(hE:∀x,x<g.cur.length→df g x=(E x:Int))(hb:b<g.cur.length)(hEb:1≤E b){d:Nd}(hd:g.nodes b=some d)(hc:¬0<cu g b-1):
  Ab (dec f b) (freeB g b) (fun x=>A x∨x=b)∧IP (freeB g b) ht∧(∀x,x<g.cur.length→df (freeB g b) x=(((E x-one b x)+(kids d).count x:Nat):Int))∧cu g b=1:=by
 have h1:=hE b hb;have c1:cu g b=1:=by unfold df at h1;omega
 refine⟨⟨?_,ab.roots,fun x hx=>?_,fun x hx=>?_,ab.rest⟩,ip.freeB hb,fun x hx=>?_,c1⟩
 ·show f.cur.set b _=g.cur.set b _;rw[nS ab b,ab.cur,c1];rfl
 ·show f.nodes x=upd g.nodes b none x
  rw[aC _ _ (fun e=>hx (.inr e))];exact ab.off x fun q=>hx (.inl q)
 ·show upd g.nodes b none x=none
  by_cases e:x=b
  ·rw[e,aD]
  ·rw[aC _ _ e];exact ab.on x (hx.resolve_right e)
 ·rw[sU hb hd c1,hE x hx]
  by_cases e:b=x
  ·subst e;rw[cA];omega
  ·rw[fT e];omega
theorem vV:∀{h:Nat} {f g:fZ} {A:Nat→Prop} {ht:Nat→Nat} {E:Nat→Nat} {b:Nat},Ab f g A→IP g ht→(∀x,x<g.cur.length→df g x=(E x:Int))→b<g.cur.length→1≤E b→ht b=h→
  sN h f b∧Un h f g A ht [b] E (unname h f b) 0:=by
 intro h;induction h with
 | zero=>
  intro f g A ht E b ab ip hE hb hEb hh;obtain⟨d,hd,hbA,hfd,dec_case⟩:=jP ab ip hE hb hEb;have hk0:kids d=[]:=by
   refine List.eq_nil_iff_forall_not_mem.2 fun c hc=>?_;rcases ip.ht b d hd with⟨q,_⟩ | ⟨_,q⟩
   ·simp[kids,q]at hc
   ·have:=q c hc;omega
  refine⟨⟨by rw[ab.cur];exact hb,d,hfd,fun _=>hk0⟩,?_⟩;unfold unname;rw[nS ab b];by_cases hc:0<cu g b-1
  ·rw[if_pos hc];exact dec_case hc
  ·rw[if_neg hc]
   obtain⟨e1,e2,e3,e4⟩:=kT ab ip hE hb hEb hd hc;refine⟨freeB g b,⟨e1.cur,e1.roots,fun x hx=>?_,fun x hx=>e1.on x (.inl hx),e1.rest⟩,e2,fun x hx=>?_,by simp[freeB],fun x=>?_,?_,rfl,rfl,rfl,rfl,rfl⟩
   ·show upd f.nodes b none x=upd g.nodes b none x
    by_cases e:x=b
    ·subst e;rw[aD,aD]
    ·rw[aC _ _ e,aC _ _ e];exact ab.off x hx
   ·have hx':x<g.cur.length:=by simpa [freeB] using hx
    rw[e3 x hx',hk0];simp only[List.count_nil,List.count_cons,beq_iff_eq,one];congr 1;omega
   ·by_cases e:x=b
    ·exact .inr (by show upd g.nodes b none x=none;rw[e,aD])
    ·exact .inl (aC _ _ e)
   ·show(1:Int)=_
    have:=rJ hb hd
    have e:(freeB g b).nodes=upd g.nodes b none:=rfl;rw[e];omega
 | succ h ih=>
  intro f g A ht E b ab ip hE hb hEb hh;obtain⟨d,hd,hbA,hfd,dec_case⟩:=jP ab ip hE hb hEb;by_cases hc:0<cu g b-1
  ·refine⟨⟨by rw[ab.cur];exact hb,d,hfd,fun q=>by rw[nS ab b]at q;omega⟩,?_⟩
   unfold unname;rw[nS ab b,if_pos hc];exact dec_case hc
  ·obtain⟨e1,e2,e3,e4⟩:=kT ab ip hE hb hEb hd hc
   have hlen:(freeB g b).cur.length=g.cur.length:=by simp[freeB]
   have hE1:∀x,x <(freeB g b).cur.length→df (freeB g b) x=(((E x-one b x)+(kids d).count x:Nat):Int):=fun x hx=>e3 x (by rw[hlen]at hx;exact hx);obtain⟨r1,⟨g2,b1,b2,b3,b4,b5,b6,b7,b8,b9,b10,b11⟩⟩:=aBP ih (kids d) (E:=fun x=>(E x-one b x)+(kids d).count x) 1 e1 e2 hE1 (fun c hc'=>⟨by rw[hlen];exact(ip.kb b d hd).kid hc',by
    rcases ip.ht b d hd with⟨q,_⟩ | ⟨_,q⟩
    ·simp[kids,q]at hc'
    ·have:=q c hc';omega⟩) (fun x=>by omega)
   refine⟨⟨by rw[ab.cur];exact hb,d,hfd,fun _ l k m e=>r1 l k m e⟩,?_⟩;unfold unname;rw[nS ab b,if_neg hc,hfd];have hb2:g2.nodes b=none:=by
    rcases b5 b with q | q
    ·rw[q];exact aD _ _ _
    ·exact q
   refine⟨g2,⟨b1.cur,b1.roots,fun x hx=>?_,fun x hx=>b1.on x (.inl hx),b1.rest⟩,b2,fun x hx=>?_,b4.trans hlen,fun x=>?_,?_,b7,b8,b9,b10,b11⟩
   ·show upd (unL h (kids d) (dec f b,1)).1.nodes b none x=g2.nodes x
    by_cases e:x=b
    ·subst e;rw[aD,hb2]
    ·rw[aC _ _ e];exact b1.off x fun q=>by rcases q with q | q;exact hx q;exact e q
   ·rw[b3 x hx]
    simp only[List.count_nil,List.count_cons,beq_iff_eq,one];congr 1;omega
   ·rcases b5 x with q | q
    ·rw[q]
     by_cases e:x=b
     ·exact .inr (by rw[e];exact aD _ _ _)
     ·exact .inl (aC _ _ e)
    ·exact .inr q
   ·show(unL h (kids d) (dec f b,1)).2=_
    rw[b6,hlen];have:=rJ hb hd;have e:(freeB g b).nodes=upd g.nodes b none:=rfl;rw[e];omega
def rid(f:fZ)(t:Nat):Int:=(f.roots.getD t (0,0)).1
structure Inv(f:fZ):Prop where
 ic:IC f
 ne:0<f.roots.length
 r16:f.roots.length≤16
 ok:∀t,t<f.roots.length→∃h,Ok f.nodes h (aB f t) none none∧(h=0∨2≤sz f.nodes (aB f t))
 ids:∀i j,i<j→j<f.roots.length→rid f i<rid f j
 idb:∀i,i<f.roots.length→0≤rid f i∧rid f i<f.next
 nx:1≤f.next∧f.next≤65535
 gn:1≤f.gen∧f.gen≤1099511627776
 cm0:∀b,b<2→co f b=0
 cmr:∀b,0≤co f b∧co f b≤65535
theorem Inv.wk{f:fZ}(h:Inv f){t:Nat}(ht:t<f.roots.length):∃H,Wk f t H∧cD f t H:=by
 obtain⟨H,h1,h2⟩:=h.ok t ht;exact⟨H,⟨h.ic,ht,h1,fun u hu _=>h.ok u hu⟩,h2⟩
theorem tB{f g:fZ}(s:aW f g)(t:Nat):rid g t=rid f t:=by
 unfold rid;have h:∀l:List (Int×Int),(l.getD t (0,0)).1=(l.map Prod.fst).getD t 0:=fun l=>by
  simp only[gD,List.getElem?_map];cases l[t]?<;>rfl
 rw[h,h,s.ids]
theorem Inv.after{f g:fZ}(h:Inv f){t H:Nat}(w:Wk g t H)(r:cD g t H)(s:aW f g):Inv g:=by
 have hl:=s.len;have hco:∀b,co g b=co f b:=fun b=>by unfold co;rw[s.com]
 refine⟨w.ic,by rw[hl];exact h.ne,by rw[hl];exact h.r16,fun u hu=>?_,fun i j hij hj=>?_,fun i hi=>?_,by rw[s.next];exact h.nx,by rw[s.gen];exact h.gn,fun b hb=>by rw[hco];exact h.cm0 b hb,fun b=>by rw[hco];exact h.cmr b⟩
 ·by_cases e:u=t
  ·subst e;exact⟨H,w.ok,r⟩
  ·exact w.oth u hu e
 ·rw[tB s,tB s];exact h.ids i j hij (by rw[←hl];exact hj)
 ·rw[tB s,s.next];exact h.idb i (by rw[←hl];exact hi)
def cS(f:fZ)(t:Nat):fZ:={f with roots:=f.roots++[(f.next,(f.roots.getD t (0,0)).2)],next:=f.next+1,cur:=f.cur.set (aB f t) (cu f (aB f t)+1)}
theorem Inv.clone{f:fZ}(h:Inv f){t:Nat}(ht:t<f.roots.length)(h16:f.roots.length<16)(hn:f.next<65535):Inv (cS f t):=by
 obtain⟨d,hd⟩:=h.ic.root_live (aP ht);have hd':f.nodes (aB f t)=some d:=hd;have hb:=h.ic.lt hd';have hl:(cS f t).cur.length=f.cur.length:=by simp[cS]
 have hg:∀x,cu (cS f t) x=if aB f t=x then cu f (aB f t)+1 else cu f x:=fun x=>fD f _ x _ hb;have hrl:(cS f t).roots.length=f.roots.length+1:=by simp[cS]
 have hget:∀u,(cS f t).roots.getD u (0,0)=if u<f.roots.length then f.roots.getD u (0,0)else if u=f.roots.length then(f.next,(f.roots.getD t (0,0)).2)else(0,0):=fun u=>by
  show(f.roots++[_]).getD u (0,0)=_
  rw[cV];split
  ·rfl
  ·split
   ·rename_i e;subst e;simp
   ·rename_i h1 h2
    obtain⟨m,hm⟩:∃m,u-f.roots.length=m+1:=⟨u-f.roots.length-1,by omega⟩;rw[hm];rfl
 have hrb:∀u,u<f.roots.length+1→aB (cS f t) u=aB f (if u<f.roots.length then u else t):=fun u hu=>by
  unfold aB;rw[hget];by_cases e:u<f.roots.length
  ·rw[if_pos e,if_pos e]
  ·rw[if_neg e,if_pos (by omega),if_neg e]
 have hid:∀u,u<f.roots.length+1→rid (cS f t) u=if u<f.roots.length then rid f u else f.next:=fun u hu=>by
  unfold rid;rw[hget];by_cases e:u<f.roots.length
  ·rw[if_pos e,if_pos e]
  ·rw[if_neg e,if_pos (by omega),if_neg e]
 have hnx:=h.nx;refine⟨⟨by rw[hl];exact h.ic.n8,by rw[hl];exact h.ic.n512,by rw[hl];exact h.ic.len,fun x hx=>?_,⟨fun x=>?_,fun x=>?_⟩,h.ic.two,fun r hr=>?_,fun x e hx=>?_,h.ic.ht⟩,by omega,by omega,fun u hu=>?_,fun i j hij hj=>?_,fun i hi=>?_,?_,h.gn,h.cm0,h.cmr⟩
 ·rw[hl]at hx
  have h0:=h.ic.D0 x hx;unfold df at h0 ⊢;rw[hl,hg];have hrc:rc (cS f t).roots x=rc f.roots x+one (aB f t) x:=by
   unfold rc;show((f.roots++[(f.next,(f.roots.getD t (0,0)).2)]).map fun r=>r.2.toNat).count x=_
   rw[List.map_append,List.count_append];congr 1;show([aB f t]:List Nat).count x=_
   simp[List.count_cons,one]
  rw[hrc];show _ -((_+deg f.nodes _ x:Nat):Int)=0
  by_cases e:aB f t=x
  ·subst e;rw[if_pos rfl,cA];omega
  ·rw[if_neg e,fT e];omega
 ·rw[hg];split
  ·rename_i e;subst e
   show f.nodes _=none↔_
   rw[hd'];have:=h.ic.cu_pos hd';constructor
   ·intro q;cases q
   ·intro q;omega
  ·exact h.ic.dom.dead x
 ·rw[hg];have:=h.ic.dom.pos x;have:=h.ic.dom.pos (aB f t);split<;>omega
 ·rw[hl]
  have hr':r∈f.roots++[(f.next,(f.roots.getD t (0,0)).2)]:=hr;rcases List.mem_append.1 hr' with hr' | hr'
  ·exact h.ic.rb r hr'
  ·simp only[List.mem_cons,List.not_mem_nil,or_false]at hr'
   subst hr';exact(h.ic.rb (f.roots.getD t (0,0)) (aP ht))
 ·rw[hl];exact h.ic.kb x e hx
 ·rw[hrl]at hu
  rw[hrb u hu];split
  ·exact h.ok u (by assumption)
  ·exact h.ok t ht
 ·rw[hrl]at hj
  rw[hid i (by omega),hid j hj,if_pos (by omega)];split
  ·exact h.ids i j hij (by assumption)
  ·exact(h.idb i (by omega)).2
 ·rw[hrl]at hi
  rw[hid i hi];show _∧_<f.next+1
  split
  ·have:=h.idb i (by assumption);omega
  ·omega
 ·show 1≤f.next+1∧f.next+1≤65535;omega
def fM(f:fZ)(t:Nat):fZ:={f with roots:=delE f.roots t}
def drop(f:fZ)(t H:Nat):fZ×Int:=unname H (fM f t) (aB f t)
theorem aLW{f g:fZ}(h:Ab f g fun _=>False):f=g:=by
 obtain⟨h1,h2,h3,h4,h5,h6,h7,h8⟩:=h;cases f;cases g;simp only at *;subst h1;subst h2;subst h5;subst h6;subst h7;subst h8;congr;exact funext fun x=>h3 x (fun q=>q)
theorem yK{nodes:Nat→Option Nd}{ht:Nat→Nat}(hh:Hts nodes ht):∀{h b:Nat} {lo hi:OB},Ok nodes h b lo hi→ht b=h
 | 0,b,lo,hi,hk=>by
  obtain⟨es,e1,_⟩:=hk;rcases hh b _ e1 with⟨_,q⟩ | ⟨q,_⟩
  ·exact q
  ·simp at q
 | h+1,b,lo,hi,hk=>by
  obtain⟨es,e1,_,e3,_,e5⟩:=hk;have h0:0<es.length:=List.length_pos_iff.2 e3;have:=yK hh (e5 0 h0).2;have:=eM (hh b _ e1) (aO h0);omega
theorem xA{f:fZ}(h:Inv f){t H:Nat}(ht:t<f.roots.length)(h1:1<f.roots.length)(hk:Ok f.nodes H (aB f t) none none):
  Inv (drop f t H).1∧sN H (fM f t) (aB f t)∧(drop f t H).2=(fB f.nodes f.cur.length:Int) -(fB (drop f t H).1.nodes f.cur.length:Int)∧(drop f t H).1.cur.length=f.cur.length∧(drop f t H).1.roots=delE f.roots t∧
   (drop f t H).1.next=f.next∧(drop f t H).1.gen=f.gen∧(drop f t H).1.com=f.com∧(drop f t H).1.table=f.table∧(∀x,(drop f t H).1.nodes x=f.nodes x∨(drop f t H).1.nodes x=none):=by
 obtain⟨ht',hI⟩:=h.ic.ip;have hmem:∀r∈delE f.roots t,r∈f.roots:=fun r hr=>oM hr;have hI1:IP (fM f t) ht':=⟨hI.n8,hI.n512,hI.len,⟨hI.dom.dead,hI.dom.pos⟩,hI.two,fun r hr=>hI.rb r (hmem r hr),hI.kb,hI.ht⟩;obtain⟨d,hd⟩:=h.ic.root_live (aP ht);have hb:aB f t<f.cur.length:=h.ic.lt (show f.nodes (aB f t)=some d from hd);have hE:∀x,x <(fM f t).cur.length→df (fM f t) x=(one (aB f t) x:Int):=fun x hx=>by
  have h0:=h.ic.D0 x hx;have hc:=fW (f.roots.map fun r=>r.2.toNat) t x (by simpa using ht);have g1:(f.roots.map fun r=>r.2.toNat).getD t 0=aB f t:=by simp[aB,gD,ht]
  rw[g1]at hc;have e:rc (fM f t).roots x=(delE (f.roots.map fun r=>r.2.toNat) t).count x:=by
   unfold rc fM;congr 1;simp[delE,List.map_take,List.map_drop]
  unfold df at h0 ⊢;rw[e];show cu f x -((_+deg f.nodes f.cur.length x:Nat):Int)=_
  have:rc f.roots x=(f.roots.map fun r=>r.2.toNat).count x:=rfl
  omega
 obtain⟨s1,⟨g,a1,a2,a3,a4,a5,a6,a7,a8,a9,a10,a11⟩⟩:=vV (h:=H) (f:=fM f t) (g:=fM f t) (A:=fun _=>False) ⟨rfl,rfl,fun _ _=>rfl,fun _ q=>q.elim,rfl,rfl,rfl,rfl⟩ hI1 hE hb (by rw[cA];exact nR _) (yK hI.ht hk);have hg:(drop f t H).1=g:=aLW a1;have h6:(drop f t H).2=0+((fB f.nodes f.cur.length:Int) -(fB g.nodes f.cur.length:Int)):=a6;have hlen:g.cur.length=f.cur.length:=a4;have hroots:g.roots=delE f.roots t:=a7;have ic:IC g:=a2.ic fun x hx=>by
  rw[a3 x hx];simp only[List.count_nil,List.count_cons,beq_iff_eq,one];omega
 have hld:=bI f.roots t ht;have hget:∀u,g.roots.getD u (0,0)=f.roots.getD (if u<t then u else u+1) (0,0):=fun u=>by
  rw[hroots,gZ _ _ _ (by omega)];split<;>rfl
 have hrb:∀u,aB g u=aB f (if u<t then u else u+1):=fun u=>by unfold aB;rw[hget]
 have hri:∀u,rid g u=rid f (if u<t then u else u+1):=fun u=>by unfold rid;rw[hget]
 have hco:∀b,co g b=co f b:=fun b=>by unfold co;rw[a8];rfl
 have hUc:∀x d,(∃d,g.nodes x=some d)→f.nodes x=some d→∀c∈kids d,∃d,g.nodes c=some d:=fun x d ⟨d',hx⟩ hx' c hc=>by
  have:g.nodes x=some d:=by
   rcases a5 x with q | q
   ·rw[q];exact hx'
   ·rw[q]at hx;cases hx
  exact ic.kid_live this hc
 have hUe:∀x,(∃d,g.nodes x=some d)→g.nodes x=f.nodes x:=fun x ⟨d',hx⟩=>by
  rcases a5 x with q | q
  ·exact q
  ·rw[q]at hx;cases hx
 rw[hg];refine⟨⟨ic,by rw[hroots,hld];omega,by rw[hroots,hld];have:=h.r16;omega,fun u hu=>?_,fun i j hij hj=>?_,fun i hi=>?_,by rw[a9];exact h.nx,by rw[a10];exact h.gn,fun b hb'=>by rw[hco];exact h.cm0 b hb',fun b=>by rw[hco];exact h.cmr b⟩,s1,by rw[h6];omega,hlen,hroots,a9,a10,a8,a11,a5⟩
 ·rw[hroots,hld]at hu
  have hlive:=ic.root_live (aP (f:=g) (t:=u) (by rw[hroots,hld];exact hu));have hlive':∃d,g.nodes (aB g u)=some d:=hlive;rw[hrb]at hlive' ⊢;obtain⟨h',k1,k2⟩:=h.ok (if u<t then u else u+1) (by split<;>omega);refine⟨h',Ok.frame hUc hUe _ _ _ _ hlive' k1,?_⟩;rcases k2 with k2 | k2
  ·exact .inl k2
  ·refine .inr ?_
   unfold sz at k2 ⊢;rw[hUe _ hlive'];exact k2
 ·rw[hroots,hld]at hj
  rw[hri,hri];by_cases q:i<t
  ·rw[if_pos q]
   by_cases q':j<t
   ·rw[if_pos q'];exact h.ids i j hij (by omega)
   ·rw[if_neg q'];exact h.ids i _ (by omega) (by omega)
  ·rw[if_neg q,if_neg (by omega)];exact h.ids _ _ (by omega) (by omega)
 ·rw[hroots,hld]at hi
  rw[hri,a9];exact h.idb _ (by split<;>omega)
