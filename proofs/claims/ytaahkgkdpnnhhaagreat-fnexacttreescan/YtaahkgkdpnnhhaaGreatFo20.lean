import Derived.Test.YtaahkgkdpnnhhaaGreatFo13
set_option linter.all false
namespace Go.Proofs.YtaahkgkdpnnhhaaGreat.Fo
variable{key val:ByteArray}{k:Int}{l m:List (ByteArray×ByteArray)}{ces es:List E3}{P:List Nat}{H a b c h i n t:Nat}{K:Nat→List Nat}{E ht:Nat→Nat}{nodes nodes':Nat→Option Nd}{A:Nat→Prop}{d:Nd}{hi lo:OB}{f f' f0 g:fZ}
theorem Wk.fillLast(w:Wk g t H)(p:aN g t H P b (h+1) lo hi)(af:g.nodes b=some (2,es))(ak:a+1<es.length)(OV:¬a+1+1<es.length)(hc:g.nodes (kd es (a+1))=some (k,ces))(cc:cu g (kd es (a+1))=1)(au:ces.length=2)(hm:Mem g.nodes h (kd es (a+1)) key)(h3:P≠[]→3≤es.length)
  {f':fZ} (hs:fillLast g b (a+1) (kd es (a+1))=some f'):Stp g f' t H P b h lo hi (kd es (a+1)) key:=by
 have fi:=aP ak;have tj:=aP (show a<es.length by omega);obtain⟨es0,q1,e2,e3,e4,e5⟩:=(p.ok w.ok).1;rw[af]at q1;cases q1;have BN:=(dK hc).1 (e5 (a+1) ak).2;obtain⟨⟨k',ses⟩,hd⟩:=w.ic.kid_live af tj;have Ao:=(dK hd).1 (e5 a (by omega)).2;have ow:k'=k:=by
  cases h with
  | zero=>have a1:=BN.1;have a2:=Ao.1;simp only at a1 a2;omega
  | succ h=>have a1:=BN.1;have a2:=Ao.1;simp only at a1 a2;omega
 subst ow;have eS:2≤ses.length:=by have:=(e5 a (by omega)).1;unfold sz at this;rw[hd]at this;exact this
 have LI:ses.length≤5:=Ao.node.le5;have iN:kd es (a+1)≠kd es a:=fun e=>by
  have:=dU (w.ic.only cc af fi).2.1 ak (by omega) e.symm;omega
 have zc:ces≠[]:=fun e=>by rw[e]at au;simp at au
 unfold Fo.fillLast at hs;rw[aE af]at hs;simp only[Nat.add_sub_cancel]at hs;rw[aE hd]at hs;simp only at hs;by_cases kr:2<ses.length
 ·rw[if_pos kr]at hs
  cases al:shadow g (.ent b a)with
  | none=>rw[al]at hs;cases hs
  | some ks=>
   obtain⟨g2,s⟩:=ks;rw[al]at hs;simp only[sJ]at hs;obtain⟨w2,p2,p3,⟨es2,m1,m2,m3,m4⟩,m5,m6,m7,m8,m9⟩:=w.shadow_ent p af (show a<es.length by omega) al;obtain⟨s1,s2,s3⟩:=w.shadow_sib p af (show a<es.length by omega) al;obtain⟨x1,x2,x3⟩:=s2 _ fi iN;have mi:kd es2 (a+1)=kd es (a+1):=by unfold kd;rw[(s3 es2 m1 (a+1)).2 (by omega)]
   have jg:g2.nodes (kd es2 (a+1))=some (k',ces):=by rw[mi,x1];exact hc
   have sy:g2.nodes (kd es2 a)=some (k',ses):=by rw[m4,m5];exact hd
   obtain⟨es3,q1,_,_,_,e5'⟩:=(p2.ok w2.ok).1;rw[m1]at q1;cases q1;have Fh:=(dK jg).1 (e5' (a+1) (by omega)).2;have Ck:=(dK sy).1 (e5' a (by omega)).2;rw[cJ _ (by omega)]at Ck;have JR:g2.nodes s=some (k',ses):=by rw[←m4];exact sy
   have AG:g2.nodes (kd es (a+1))=some (k',ces):=by rw[←mi];exact jg
   rw[aE AG,aE JR,aE m1]at hs;simp only at hs;have mv:=w2.move p2 m1 (a:=a) (by omega) sy jg (by rw[m4];exact m6) (by rw[mi,x2];exact cc) (les':=ses.take (ses.length-1)) (res':=ses.drop (ses.length-1)++ces) (mid:=ky ses (ses.length-1))
    (Ck.take (by omega) (by omega))
    ((Ck.drop (by omega)).join Fh (eA _) (nE (by omega)) zc (by rw[List.length_drop];omega)) (by rw[len_take' (by omega)];omega) (by rw[lP,List.length_drop];omega)
    (fun x=>by rw[nO,List.count_append];have:=kV k' ses (ses.length-1) x;omega)
    (fun e he=>by
     rcases he with he | he
     ·exact .inl (List.mem_of_mem_take he)
     ·rcases List.mem_append.1 he with he | he
      ·exact .inl (List.mem_of_mem_drop he)
      ·exact .inr he)
   rw[m4,mi]at mv;simp only at mv;rw[hs]at mv;obtain⟨v1,v2,v3,v4,v5,v6,v7,v8,v9⟩:=mv;have uj:(es2.set (a+1) (ky ses (ses.length-1),(es2.getD (a+1) e0).2)).length=es.length:=by simp[m2]
   refine⟨v1,m9.trans (hs▸aX.moveF ..),⟨_,_,v6⟩,v4,?_,?_,fun hr=>.inl (v2 (m8 hr)),.inl ⟨_,v3,by rw[uj];omega⟩⟩
   ·unfold sz;rw[v8];simp only[lP,List.length_drop];omega
   ·rw[bO v8]
    have od:=x3 key h hm;rw[bO AG]at od;exact od.more (fun e he=>List.mem_append_right _ he) fun c bo h' g9=>v9 key c (.inr bo) h' g9
 ·rw[if_neg kr,aE hc]at hs
  simp only[sJ]at hs;have ee:(es.set (a+1) (ky es a,(es.getD (a+1) e0).2)).length=es.length:=by simp
  have iv:∀j,(es.set (a+1) (ky es a,(es.getD (a+1) e0).2)).getD j e0=if j=a+1 then(ky es a,(es.getD (a+1) e0).2)else es.getD j e0:=fun j=>bB _ _ _ _ _ ak;have ik:∀j,(delE (es.set (a+1) (ky es a,(es.getD (a+1) e0).2)) a).getD j e0=if j<a then es.getD j e0 else if j=a then(ky es a,(es.getD (a+1) e0).2)else es.getD (j+1) e0:=fun j=>by
   rw[gZ _ _ _ (by rw[ee];omega)];by_cases q:j<a
   ·rw[if_pos q,if_pos q,iv,if_neg (by omega)]
   ·rw[if_neg q,if_neg q,iv]
    by_cases q':j=a
    ·rw[if_pos (by omega),if_pos q']
    ·rw[if_neg (by omega),if_neg q']
  have AO:kids (2,es.set (a+1) (ky es a,(es.getD (a+1) e0).2))=kids (2,es):=by
   rw[gK,gK];refine List.ext_getElem? fun j=>?_;simp only[List.getElem?_map,List.getElem?_set];split
   ·rename_i e;subst e
    rw[gD,gE ak];simp[ak,ch]
   ·rfl
  have mg:=w.merge p af (a:=a) ak (es':=delE (es.set (a+1) (ky es a,(es.getD (a+1) e0).2)) a) (.inr ⟨rfl,rfl,rfl,rfl⟩) hc hd cc (by omega) (by rw[bI _ _ (by rw[ee];omega),ee];omega)
   (fun j=>by
    rw[show ky (delE (es.set (a+1) (ky es a,(es.getD (a+1) e0).2)) a) j=((delE (es.set (a+1) (ky es a,(es.getD (a+1) e0).2)) a).getD j e0).1 from rfl,ik];by_cases q:j<a
    ·rw[if_pos q,if_pos (by omega)];rfl
    ·rw[if_neg q]
     by_cases q':j=a
     ·rw[if_pos q',if_pos (by omega),q']
     ·rw[if_neg q',if_neg (by omega)];rfl)
   (fun j=>by
    unfold kd;rw[ik];by_cases q:j<a
    ·rw[if_pos q,if_pos q]
    ·rw[if_neg q,if_neg q]
     by_cases q':j=a
     ·rw[if_pos q',if_pos q'];rfl
     ·rw[if_neg q',if_neg q'])
   (fun j hj=>by
    rw[bI _ _ (by rw[ee];omega),ee]at hj;rw[ik];split
    ·exact e4 j (by omega)
    ·split
     ·exact e4 _ ak
     ·exact e4 _ (by omega))
   (fun x=>by
    have:=vB (es.set (a+1) (ky es a,(es.getD (a+1) e0).2)) a x (by rw[ee];omega)
    rw[iv,if_neg (by omega),AO]at this;exact this)
   (fun e he=>by
    obtain⟨j,hj,rfl⟩:=cN (nW he);rw[iv];split
    ·exact w.ic.child_pos af ak
    ·exact w.ic.child_pos af (by rw[ee]at hj;exact hj)) h3
  simp only at mg
  rw[hs]at mg;obtain⟨v1,v2,v3,v4,v5,v6,v7⟩:=mg;have AP:(delE (es.set (a+1) (ky es a,(es.getD (a+1) e0).2)) a).length=es.length-1:=by rw[bI _ _ (by rw[ee];omega),ee]
  have fh:(∃es',f'.nodes b=some (2,es')∧2≤es'.length)∨(P=[]∧∃e,f'.nodes b=some (2,[e])∧ch e=kd es (a+1)):=by
   by_cases q:3≤es.length
   ·exact .inl ⟨_,v3,by rw[AP];omega⟩
   ·refine .inr ⟨by by_cases hP:P=[];exact hP;exact absurd (h3 hP) q,(ky es a,(es.getD (a+1) e0).2),?_,rfl⟩
    rw[v3];have hl:es.length=2:=by omega
    obtain rfl:a=0:=by omega
    match es,hl with
    | [x,y],_=>rfl
  refine⟨v1,hs▸aX.mergeF ..,⟨_,_,v5⟩,v4,?_,?_,fun hr=>?_,fh⟩
  ·unfold sz;rw[v6];simp only[lP];omega
  ·rw[bO v6]
   rw[bO hc]at hm;exact hm.more (fun e he=>List.mem_append_right _ he) fun c bo h' g9=>v7 key c bo h' g9
  ·by_cases q:3≤es.length
   ·exact .inl (v2 q hr)
   ·rcases fh with⟨es',n1,n2⟩ | q'
    ·rw[v3]at n1;cases n1;rw[AP]at n2;omega
    ·exact .inr q'
theorem Stp.before{f1:fZ}(s:Stp f1 g t H P b h lo hi c key)(hs:aX f f1)(hr:cD f t H→cD f1 t H):Stp f g t H P b h lo hi c key:=
 ⟨s.wk,hs.trans s.same,s.path,s.up,s.spare,s.mem,fun q=>s.rt (hr q),s.many⟩
theorem Wk.stepDel(w:Wk f t H)(p:aN f t H P b (h+1) lo hi)(hr:cD f t H)(h3:P≠[]→3≤sz f.nodes b)(hm:Mem f.nodes (h+1) b key)(hs:stepDel f b key=some (g,c)):Stp f g t H P b h lo hi c key:=by
 obtain⟨es,af,so,av⟩:=p.inner w;have vo:=Mem.at af (p.ok w.ok).1 hm;have h2:2≤es.length:=by
  by_cases hP:P=[]
  ·rcases p.top with⟨_,q,q'⟩ | ⟨q,_⟩
   ·rcases hr with hr | hr
    ·omega
    ·rw[←q]at hr;unfold sz at hr;rw[af]at hr;exact hr
   ·rw[hP]at q;cases q
  ·have:=h3 hP;unfold sz at this;rw[af]at this;simp only at this;omega
 have PN:P≠[]→3≤es.length:=fun hP=>by have:=h3 hP;unfold sz at this;rw[af]at this;exact this
 unfold Fo.stepDel at hs;rw[aE af]at hs;simp only at hs;have fe:=eB key av;generalize bK es key=i at *;cases al:shadow f (.ent b i)with
 | none=>rw[al]at hs;cases hs
 | some gc=>
  obtain⟨g1,c1⟩:=gc;rw[al]at hs;simp only at hs;obtain⟨w2,p2,p3,⟨es2,m1,m2,m3,m4⟩,m5,m6,m7,m8,m9⟩:=w.shadow_ent p af fe al;obtain⟨s1,s2,s3⟩:=w.shadow_sib p af fe al;obtain⟨⟨k,ces⟩,hd⟩:=w2.ic.live (x:=c1) (by rw[m6];omega);have xr:2≤ces.length:=by
   have:=(p3.ok w2.ok).2 (by simp);unfold sz at this;rw[hd]at this;exact this
  rw[aE hd,aE m1]at hs;simp only at hs;have OW:=s1 key h vo;by_cases q:2<ces.length
  ·rw[if_pos q]at hs
   simp only[sJ,Prod.mk.injEq]at hs;obtain⟨rfl,rfl⟩:=hs;exact⟨w2,m9,⟨_,_,p3⟩,p2,by unfold sz;rw[hd];exact q,OW,fun q=>.inl (m8 q),.inl ⟨es2,m1,by omega⟩⟩
  ·rw[if_neg q]at hs
   subst m4;by_cases q':i+1<es2.length
   ·rw[if_pos q']at hs
    cases hf:Fo.fillNext g1 b i (kd es2 i)with
    | none=>rw[hf]at hs;cases hs
    | some f'=>
     rw[hf]at hs;simp only[Option.map_some,sJ,Prod.mk.injEq]at hs;obtain⟨rfl,rfl⟩:=hs;exact(w2.fillNext p2 m1 q' hd m6 (by omega) OW (fun hP=>by rw[m2];exact PN hP) hf).before m9 m8
   ·rw[if_neg q']at hs
    cases hf:Fo.fillLast g1 b i (kd es2 i)with
    | none=>rw[hf]at hs;cases hs
    | some f'=>
     rw[hf]at hs;simp only[Option.map_some,sJ,Prod.mk.injEq]at hs;obtain⟨rfl,rfl⟩:=hs;obtain⟨a,rfl⟩:∃a,i=a+1:=⟨i-1,by omega⟩;exact(w2.fillLast p2 m1 (by omega) q' hd m6 (by omega) OW (fun hP=>by rw[m2];exact PN hP) hf).before m9 m8
theorem aDU(h:dX es lo hi)(ha:a<es.length):dX (delE es a) lo hi:=by
 have gw:∀j,ky (delE es a) j=if j<a then ky es j else ky es (j+1):=fun j=>by
  unfold ky;rw[gZ _ _ _ (by omega)];split<;>rfl
 have hl:=bI es a ha;refine⟨fun i j g8 hj=>?_,fun j hj=>?_,fun j hj=>?_,by have:=h.le5;omega⟩
 ·rw[gw,gw]
  by_cases q:i<a
  ·rw[if_pos q];split
   ·exact h.srt i j g8 (by omega)
   ·exact h.srt i _ (by omega) (by omega)
  ·rw[if_neg q,if_neg (by omega)];exact h.srt _ _ (by omega) (by omega)
 ·rw[gw];split
  ·exact h.lo j (by omega)
  ·exact h.lo _ (by omega)
 ·rw[gw];split
  ·exact h.hi j (by omega)
  ·exact h.hi _ (by omega)
theorem jW(hs:Srt es){j:Nat}(hj:j<es.length)(e:ky es j=key):fC es key=true∧cLt es key=j:=by
 have a:cLt es key=j:=by
  have h1:¬j<cLt es key:=fun q=>by
   have:=(gA hs key hj).2 q;rw[e,eA]at this;cases this
  have h2:∀i,i<j→i<cLt es key:=fun i hi=>(gA hs key (by omega)).1 (by rw[←e];exact hs i j hi hj);by_cases q:j=0
  ·omega
  ·have:=h2 (j-1) (by omega);omega
 exact⟨(dG es key).2 ⟨by omega,by rw[a];exact e⟩,a⟩
theorem qZ:∀{h H:Nat} {f:fZ} (w:Wk f t H) {P:List Nat} {b:Nat} {lo hi:OB} (p:aN f t H P b h lo hi) (h3:P≠[]→3≤sz f.nodes b) (hr:cD f t H) (hm:Mem f.nodes h b key) {g:fZ} (hs:delAt h f t b key=some g),
  ∃H',Wk g t H'∧cD g t H'∧aX f g
 | 0,H,f,w,P,b,lo,hi,p,h3,hr,hm,g,hs=>by
  obtain⟨es,af,hn,hc⟩:=p.leaf w;obtain⟨es',q1,j,hj,hk⟩:=hm;rw[af]at q1;cases q1;unfold delAt at hs;rw[aE af]at hs;simp only[sJ]at hs;subst hs;have ha:cLt es key<es.length:=by rw[(jW hn.srt hj hk).2];exact hj
  obtain⟨a1,a2⟩:=w.leaf p af (aDU hn ha) (fun i ak=>by
   rw[bI _ _ ha]at ak;rw[gZ _ _ _ (by omega)];split
   ·exact hc i (by omega)
   ·exact hc _ (by omega)) (fun hP=>by
   have:=h3 hP;unfold sz at this;rw[af]at this;simp only at this
   rw[bI _ _ ha];omega)
  exact⟨H,a1,a2 hr,aX.setN _ _ _⟩
 | h+1,H,f,w,P,b,lo,hi,p,h3,hr,hm,g,hs=>by
  unfold delAt at hs;cases ml:stepDel f b key with
  | none=>rw[ml]at hs;cases hs
  | some gc=>
   obtain⟨g1,c⟩:=gc;rw[ml]at hs;simp only at hs;have st:=w.stepDel p hr h3 hm ml;obtain⟨lo',ak,pc⟩:=st.path;rcases st.many with⟨es,n1,n2⟩ | ⟨hP,e,n1,n2⟩
   ·rw[aE n1]at hs
    simp only at hs
    rw[if_neg (by omega)]at hs;have ez:cD g1 t H:=by
     rcases st.rt hr with q | ⟨_,e,q,_⟩
     ·exact q
     ·rw[n1]at q;cases q;simp at n2
    obtain⟨H',a1,a2,a3⟩:=qZ st.wk pc (fun _=>st.spare) ez st.mem hs;exact⟨H',a1,a2,st.same.trans a3⟩
   ·rw[aE n1]at hs
    rw[if_pos (show([e]:List E3).length=1 from rfl)]at hs;have ie:kd [e] 0=ch e:=rfl;rw[ie]at hs;subst hP;rcases st.up.top with⟨_,q,q'⟩ | ⟨q,_⟩
    ·subst q'
     rw[q]at n1;have ed:cu g1 (aB g1 t)=1:=by have:=(st.up.named st.wk.ic st.wk.tl b List.mem_cons_self).1;rw[q]at this;exact this
     have jg:cu g1 (ch e)=1:=by rw[n2];exact(pc.named st.wk.ic st.wk.tl c List.mem_cons_self).1
     obtain⟨v1,v2,v3,v4,v5,v6⟩:=st.wk.fall n1 ed jg;rw[n2]at v1 v2 v3 v4 v5 v6 hs;obtain⟨H',a1,a2,a3⟩:=qZ v1 v2 (fun q=>absurd rfl q) v4 (v6 key st.mem) hs;exact⟨H',a1,a2,(st.same.trans (aX.fallF ..)).trans a3⟩
    ·cases q
theorem vJ(w:Wk f t H)(hr:cD f t H)(hm:Mem f.nodes H (aB f t) key)(hs:bV f t H key=some g):∃H',Wk g t H'∧cD g t H'∧aX f g:=by
 unfold bV at hs;cases al:shadow f (.root t)with
 | none=>rw[al]at hs;cases hs
 | some gr=>
  obtain⟨g1,r⟩:=gr;rw[al]at hs;simp only at hs;obtain⟨w1,p1,a1,a2,a3,a4,a5,a6⟩:=w.shadow_root al;have vo:Mem g1.nodes H r key:=by
   unfold shadow at al;have hg:bJ f (.root t)=aB f t:=rfl;rw[hg]at al;by_cases ho:own f (aB f t)
   ·rw[if_pos ho]at al;cases al;exact hm
   ·rw[if_neg ho]at al
    by_cases hl:aF f=0
    ·rw[if_pos hl]at al;cases al
    ·rw[if_neg hl]at al
     simp only[sJ,Prod.mk.injEq]at al;obtain⟨iv,yl⟩:=al;obtain⟨l1,l2,l3,_⟩:=aR hl;obtain⟨d,hd⟩:=w.ic.root_live (aO w.tl);have gd:f.nodes (aB f t)=some d:=hd;obtain⟨I1,I2,_⟩:=w.ic.shadow (L:=.root t) w.tl rfl hd l1 l2 l3;have dh:f.nodes (aF f)=none:=(w.ic.dom.dead _).2 l3;have vu:g1.nodes=if cu f (aB f t)=1 then upd (upd f.nodes (aF f) (some d)) (aB f t) none else upd f.nodes (aF f) (some d):=by rw[←iv];exact I2
     let U:Nat→Prop:=fun x=>(∃d,f.nodes x=some d)∧(cu f (aB f t)=1→x≠aB f t)
     have lk:∀x d,U x→f.nodes x=some d→∀c∈kids d,U c:=fun x d' _ hx c bo=>
      ⟨w.ic.kid_live hx bo,fun h1 e=>(w.ic.onlyRoot (aO w.tl) h1).2 x d' hx (by have:c=(f.roots.getD t (0,0)).2.toNat:=e;rw[←this];exact bo)⟩
     have gj:∀x,U x→g1.nodes x=f.nodes x:=fun x ⟨⟨d',hx⟩,h1⟩=>by
      have Bx:x≠aF f:=fun e=>by rw[e,dh]at hx;cases hx
      rw[vu];split
      ·rename_i ot;rw[aC _ _ (h1 ot),aC _ _ Bx]
      ·rw[aC _ _ Bx]
     have nr:g1.nodes r=some d:=by rw[a2];exact gd
     rw[bO nr];rw[bO gd]at hm;obtain⟨k,des⟩:=d;exact hm.more (fun e he=>he) fun c bo h' g9=>Mem.frame lk gj _ _ ⟨w.ic.kid_live gd bo,fun _ e=>w.ic.not_self gd (e▸bo)⟩ g9
  obtain⟨H',b1,b2,b3⟩:=qZ w1 p1 (fun q=>absurd rfl q) (a5 hr) vo hs;exact⟨H',b1,b2,a6.trans b3⟩
def dec(f:fZ)(b:Nat):fZ:={f with cur:=f.cur.set b (cu f b-1)}
def delN(f:fZ)(b:Nat):fZ:={f with nodes:=upd f.nodes b none}
def unname:Nat→fZ→Nat→fZ×Int
 | 0,f,b=>if 0<cu f b-1 then(dec f b,0)else(delN (dec f b) b,1)
 | h+1,f,b=>if 0<cu f b-1 then(dec f b,0)else
  let r:=(bZ (f.nodes b)).foldl (fun a k=>((unname h a.1 k).1,a.2+(unname h a.1 k).2)) (dec f b,1)
  (delN r.1 b,r.2)
def unL(h:Nat)(l:List Nat)(a:fZ×Int):fZ×Int:=l.foldl (fun a k=>((unname h a.1 k).1,a.2+(unname h a.1 k).2)) a
theorem lH(h k:Nat)(l:List Nat)(a:fZ×Int):unL h (k :: l) a=unL h l ((unname h a.1 k).1,a.2+(unname h a.1 k).2):=rfl
def qR:Nat→fZ→Nat→Prop
 | 0,f,b=>b<f.cur.length∧∃d,f.nodes b=some d∧(cu f b-1≤0→kids d=[])
 | h+1,f,b=>b<f.cur.length∧∃d,f.nodes b=some d∧(cu f b-1≤0→∀l k m,kids d=l++k :: m→qR h (unL h l (dec f b,1)).1 k)
structure Ab(f g:fZ)(A:Nat→Prop):Prop where
 cur:f.cur=g.cur
 roots:f.roots=g.roots
 off:∀x,¬A x→f.nodes x=g.nodes x
 on:∀x,A x→g.nodes x=none
 rest:f.com=g.com∧f.next=g.next∧f.gen=g.gen∧f.table=g.table
def fG(nodes:Nat→Option Nd)(n:Nat):Nat:=cQ n fun x=>if(nodes x).isSome then 1 else 0
theorem sA(hb:b<n)(hd:nodes b=some d):fG (upd nodes b none) n+1=fG nodes n:=by
 have:=lW (n:=n) (g:=fun x=>if(nodes x).isSome then 1 else 0) (g':=fun x=>if(upd nodes b none x).isSome then 1 else 0) hb (fun y hy=>by simp only[aC _ _ hy])
 simp only[aD,hd,Option.isSome_some,Option.isSome_none,if_true]at this;unfold fG;simpa using this
theorem nC(h:Ab f g A)(x:Nat):cu f x=cu g x:=by unfold cu;rw[h.cur]
structure Un(h:Nat)(f g:fZ)(A:Nat→Prop)(ht:Nat→Nat)(l:List Nat)(E:Nat→Nat)(r:fZ×Int)(n0:Int):Prop where
 ex:∃g',Ab r.1 g' A∧IP g' ht∧(∀x,x<g'.cur.length→df g' x=((E x-l.count x:Nat):Int))∧g'.cur.length=g.cur.length∧(∀x,g'.nodes x=g.nodes x∨g'.nodes x=none)∧r.2=n0+((fG g.nodes g.cur.length:Int) -(fG g'.nodes g.cur.length:Int))∧g'.roots=g.roots∧g'.com=g.com∧g'.next=g.next∧g'.gen=g.gen∧g'.table=g.table
theorem aBY(one_ok:∀{f g:fZ} {A:Nat→Prop} {ht:Nat→Nat} {E:Nat→Nat} {b:Nat},Ab f g A→IP g ht→(∀x,x<g.cur.length→df g x=(E x:Int))→b<g.cur.length→1≤E b→ht b=h→qR h f b∧Un h f g A ht [b] E (unname h f b) 0):
  ∀(l:List Nat) {f g:fZ} {A:Nat→Prop} {ht:Nat→Nat} {E:Nat→Nat} (n0:Int),Ab f g A→IP g ht→(∀x,x<g.cur.length→df g x=(E x:Int))→(∀b∈l,b<g.cur.length∧ht b=h)→(∀x,l.count x≤E x)→
   (∀l1 k m,l=l1++k :: m→qR h (unL h l1 (f,n0)).1 k)∧Un h f g A ht l E (unL h l (f,n0)) n0
 | [],f,g,A,ht,E,n0,ab,ip,hE,hl,hc=>⟨fun l1 k m e=>by simp at e,⟨g,ab,ip,fun x hx=>by simpa using hE x hx,rfl,fun _=>.inl rfl,by simp[unL],rfl,rfl,rfl,rfl,rfl⟩⟩
 | b :: l,f,g,A,ht,E,n0,ab,ip,hE,hl,hc=>by
  have hb:=hl b List.mem_cons_self;have CC:1≤E b:=by have:=hc b;rw[List.count_cons]at this;simp at this;omega
  obtain⟨s1,⟨g',a1,a2,a3,a4,a5,a6,a7,a8,a9,a10,a11⟩⟩:=one_ok ab ip hE hb.1 CC hb.2;have ed:∀x,([b]:List Nat).count x=one b x:=fun x=>by simp only[List.count_cons,List.count_nil,beq_iff_eq,one];omega
  have au:∀x,(b :: l).count x=l.count x+one b x:=fun x=>by simp only[List.count_cons,beq_iff_eq,one]
  obtain⟨r1,⟨g2,b1,b2,b3,b4,b5,b6,b7,b8,b9,b10,b11⟩⟩:=aBY one_ok l (E:=fun x=>E x-one b x) (n0+(unname h f b).2) a1 a2 (fun x hx=>by rw[a3 x hx,ed]) (fun x hx=>by rw[a4];exact hl x (List.mem_cons_of_mem _ hx)) (fun x=>by have:=hc x;rw[au]at this;omega);refine⟨fun l1 k m e=>?_,⟨g2,?_,b2,fun x hx=>?_,b4.trans a4,fun x=>?_,?_,b7.trans a7,b8.trans a8,b9.trans a9,b10.trans a10,b11.trans a11⟩⟩
  ·cases l1 with
   | nil=>simp only[List.nil_append,List.cons.injEq]at e;rw[←e.1];exact s1
   | cons y l1=>
    simp only[List.cons_append,List.cons.injEq]at e;obtain⟨rfl,e⟩:=e;rw[lH];exact r1 l1 k m e
  ·rw[lH];exact b1
  ·rw[b3 x hx,au];congr 1;omega
  ·rcases b5 x with q | q
   ·rw[q];exact a5 x
   ·exact .inr q
  ·rw[lH,b6,a6,a4];omega
theorem IP.decr(h:IP g ht)(hb:b<g.cur.length)(h2:1<cu g b):IP (dec g b) ht:=by
 have hl:(dec g b).cur.length=g.cur.length:=by simp[dec]
 have hg:∀x,cu (dec g b) x=if b=x then cu g b-1 else cu g x:=fun x=>fE g b x _ hb;refine⟨by rw[hl];exact h.n8,by rw[hl];exact h.n512,by rw[hl];exact h.len,⟨fun x=>?_,fun x=>?_⟩,h.two,?_,?_,h.ht⟩
 ·rw[hg];split
  ·rename_i e;subst e
   have:=h.dom.dead b
   constructor
   ·intro q;have:=this.1 q;omega
   ·intro q;omega
  ·exact h.dom.dead x
 ·rw[hg];have:=h.dom.pos x;split<;>omega
 ·intro r hr;rw[hl];exact h.rb r hr
 ·intro x e hx;rw[hl];exact h.kb x e hx
theorem aLQ(hb:b<g.cur.length)(x:Nat):df (dec g b) x=df g x -(one b x:Int):=by
 have hl:(dec g b).cur.length=g.cur.length:=by simp[dec]
 have hg:cu (dec g b) x=if b=x then cu g b-1 else cu g x:=fE g b x _ hb;unfold df;rw[hl,hg];show _ -((rc g.roots x+deg g.nodes g.cur.length x:Nat):Int)=_
 by_cases e:b=x
 ·subst e;rw[if_pos rfl,cA];omega
 ·rw[if_neg e,fU e];omega
theorem kI(ab:Ab f g A)(ip:IP g ht)(hE:∀x,x<g.cur.length→df g x=(E x:Int))(hb:b<g.cur.length)(CC:1≤E b):
  ∃d,g.nodes b=some d∧¬A b∧f.nodes b=some d∧(0<cu g b-1→Un h f g A ht [b] E (dec f b,0) 0):=by
 have h1:=hE b hb;have hl:∃d,g.nodes b=some d:=by
  cases e:g.nodes b with
  | some d=>exact⟨d,rfl⟩
  | none=>have:=(ip.dom.dead b).1 e;unfold df at h1;omega
 obtain⟨d,hd⟩:=hl;have hA:¬A b:=fun q=>by have:=ab.on b q;rw[hd]at this;cases this
 refine⟨d,hd,hA,(ab.off b hA).trans hd,fun hc=>⟨dec g b,⟨?_,ab.roots,ab.off,ab.on,ab.rest⟩,ip.decr hb (by omega),fun x hx=>?_,by simp[dec],fun _=>.inl rfl,?_,rfl,rfl,rfl,rfl,rfl⟩⟩
 ·show f.cur.set b _=g.cur.set b _;rw[nC ab b,ab.cur]
 ·have bq:x<g.cur.length:=by simpa [dec] using hx
  rw[aLQ hb,hE x bq];simp only[List.count_nil,List.count_cons,beq_iff_eq,one];by_cases e:b=x
  ·subst e;simp;omega
  ·simp[e]
 ·show(0:Int)=0+_
  have e:(dec g b).nodes=g.nodes:=rfl;rw[e];omega
theorem lI(ab:Ab f g A)(ip:IP g ht)(hE:∀x,x<g.cur.length→df g x=(E x:Int))(hb:b<g.cur.length)(CC:1≤E b)(hd:g.nodes b=some d)(hc:¬0<cu g b-1):
  Ab (dec f b) (freeB g b) (fun x=>A x∨x=b)∧IP (freeB g b) ht∧(∀x,x<g.cur.length→df (freeB g b) x=(((E x-one b x)+(kids d).count x:Nat):Int))∧cu g b=1:=by
 have h1:=hE b hb;have c1:cu g b=1:=by unfold df at h1;omega
 refine⟨⟨?_,ab.roots,fun x hx=>?_,fun x hx=>?_,ab.rest⟩,ip.freeB hb,fun x hx=>?_,c1⟩
 ·show f.cur.set b _=g.cur.set b _;rw[nC ab b,ab.cur,c1];rfl
 ·show f.nodes x=upd g.nodes b none x
  rw[aC _ _ (fun e=>hx (.inr e))];exact ab.off x fun q=>hx (.inl q)
 ·show upd g.nodes b none x=none
  by_cases e:x=b
  ·rw[e,aD]
  ·rw[aC _ _ e];exact ab.on x (hx.resolve_right e)
 ·rw[rD hb hd c1,hE x hx]
  by_cases e:b=x
  ·subst e;rw[cA];omega
  ·rw[fU e];omega
theorem vR:∀{h:Nat} {f g:fZ} {A:Nat→Prop} {ht:Nat→Nat} {E:Nat→Nat} {b:Nat},Ab f g A→IP g ht→(∀x,x<g.cur.length→df g x=(E x:Int))→b<g.cur.length→1≤E b→ht b=h→
  qR h f b∧Un h f g A ht [b] E (unname h f b) 0:=by
 intro h;induction h with
 | zero=>
  intro f g A ht E b ab ip hE hb CC hh;obtain⟨d,hd,xk,lp,dec_case⟩:=kI ab ip hE hb CC;have gp:kids d=[]:=by
   refine List.eq_nil_iff_forall_not_mem.2 fun c hc=>?_;rcases ip.ht b d hd with⟨q,_⟩ | ⟨_,q⟩
   ·simp[kids,q]at hc
   ·have:=q c hc;omega
  refine⟨⟨by rw[ab.cur];exact hb,d,lp,fun _=>gp⟩,?_⟩;unfold unname;rw[nC ab b];by_cases hc:0<cu g b-1
  ·rw[if_pos hc];exact dec_case hc
  ·rw[if_neg hc]
   obtain⟨e1,e2,e3,e4⟩:=lI ab ip hE hb CC hd hc;refine⟨freeB g b,⟨e1.cur,e1.roots,fun x hx=>?_,fun x hx=>e1.on x (.inl hx),e1.rest⟩,e2,fun x hx=>?_,by simp[freeB],fun x=>?_,?_,rfl,rfl,rfl,rfl,rfl⟩
   ·show upd f.nodes b none x=upd g.nodes b none x
    by_cases e:x=b
    ·subst e;rw[aD,aD]
    ·rw[aC _ _ e,aC _ _ e];exact ab.off x hx
   ·have bq:x<g.cur.length:=by simpa [freeB] using hx
    rw[e3 x bq,gp];simp only[List.count_nil,List.count_cons,beq_iff_eq,one];congr 1;omega
   ·by_cases e:x=b
    ·exact .inr (by show upd g.nodes b none x=none;rw[e,aD])
    ·exact .inl (aC _ _ e)
   ·show(1:Int)=_
    have:=sA hb hd
    have e:(freeB g b).nodes=upd g.nodes b none:=rfl;rw[e];omega
 | succ h ih=>
  intro f g A ht E b ab ip hE hb CC hh;obtain⟨d,hd,xk,lp,dec_case⟩:=kI ab ip hE hb CC;by_cases hc:0<cu g b-1
  ·refine⟨⟨by rw[ab.cur];exact hb,d,lp,fun q=>by rw[nC ab b]at q;omega⟩,?_⟩
   unfold unname;rw[nC ab b,if_pos hc];exact dec_case hc
  ·obtain⟨e1,e2,e3,e4⟩:=lI ab ip hE hb CC hd hc
   have ah:(freeB g b).cur.length=g.cur.length:=by simp[freeB]
   have Dh:∀x,x <(freeB g b).cur.length→df (freeB g b) x=(((E x-one b x)+(kids d).count x:Nat):Int):=fun x hx=>e3 x (by rw[ah]at hx;exact hx);obtain⟨r1,⟨g2,b1,b2,b3,b4,b5,b6,b7,b8,b9,b10,b11⟩⟩:=aBY ih (kids d) (E:=fun x=>(E x-one b x)+(kids d).count x) 1 e1 e2 Dh (fun c bo=>⟨by rw[ah];exact(ip.kb b d hd).kid bo,by
    rcases ip.ht b d hd with⟨q,_⟩ | ⟨_,q⟩
    ·simp[kids,q]at bo
    ·have:=q c bo;omega⟩) (fun x=>by omega)
   refine⟨⟨by rw[ab.cur];exact hb,d,lp,fun _ l k m e=>r1 l k m e⟩,?_⟩;unfold unname;rw[nC ab b,if_neg hc,lp];have ba:g2.nodes b=none:=by
    rcases b5 b with q | q
    ·rw[q];exact aD _ _ _
    ·exact q
   refine⟨g2,⟨b1.cur,b1.roots,fun x hx=>?_,fun x hx=>b1.on x (.inl hx),b1.rest⟩,b2,fun x hx=>?_,b4.trans ah,fun x=>?_,?_,b7,b8,b9,b10,b11⟩
   ·show upd (unL h (kids d) (dec f b,1)).1.nodes b none x=g2.nodes x
    by_cases e:x=b
    ·subst e;rw[aD,ba]
    ·rw[aC _ _ e];exact b1.off x fun q=>by rcases q with q | q;exact hx q;exact e q
   ·rw[b3 x hx]
    simp only[List.count_nil,List.count_cons,beq_iff_eq,one];congr 1;omega
   ·rcases b5 x with q | q
    ·rw[q]
     by_cases e:x=b
     ·exact .inr (by rw[e];exact aD _ _ _)
     ·exact .inl (aC _ _ e)
    ·exact .inr q
   ·show(unL h (kids d) (dec f b,1)).2=_
    rw[b6,ah];have:=sA hb hd;have e:(freeB g b).nodes=upd g.nodes b none:=rfl;rw[e];omega
def rid(f:fZ)(t:Nat):Int:=(f.roots.getD t (0,0)).1
structure Inv(f:fZ):Prop where
 ic:IC f
 ne:0<f.roots.length
 r16:f.roots.length≤16
 ok:∀t,t<f.roots.length→∃h,Ok f.nodes h (aB f t) none none∧(h=0∨2≤sz f.nodes (aB f t))
 ids:∀i j,i<j→j<f.roots.length→rid f i<rid f j
 idb:∀i,i<f.roots.length→0≤rid f i∧rid f i<f.next
 nx:1≤f.next∧f.next≤65535
 gn:1≤f.gen∧f.gen≤1099511627776
 cm0:∀b,b<2→co f b=0
 cmr:∀b,0≤co f b∧co f b≤65535
theorem Inv.wk(h:Inv f)(ht:t<f.roots.length):∃H,Wk f t H∧cD f t H:=by
 obtain⟨H,h1,h2⟩:=h.ok t ht;exact⟨H,⟨h.ic,ht,h1,fun u hu _=>h.ok u hu⟩,h2⟩
theorem sW(s:aX f g)(t:Nat):rid g t=rid f t:=by
 unfold rid;have h:∀l:List (Int×Int),(l.getD t (0,0)).1=(l.map Prod.fst).getD t 0:=fun l=>by
  simp only[gD,List.getElem?_map];cases l[t]?<;>rfl
 rw[h,h,s.ids]
theorem Inv.after(h:Inv f)(w:Wk g t H)(r:cD g t H)(s:aX f g):Inv g:=by
 have hl:=s.len;have Cu:∀b,co g b=co f b:=fun b=>by unfold co;rw[s.com]
 refine⟨w.ic,by rw[hl];exact h.ne,by rw[hl];exact h.r16,fun u hu=>?_,fun i j g8 hj=>?_,fun i hi=>?_,by rw[s.next];exact h.nx,by rw[s.gen];exact h.gn,fun b hb=>by rw[Cu];exact h.cm0 b hb,fun b=>by rw[Cu];exact h.cmr b⟩
 ·by_cases e:u=t
  ·subst e;exact⟨H,w.ok,r⟩
  ·exact w.oth u hu e
 ·rw[sW s,sW s];exact h.ids i j g8 (by rw[←hl];exact hj)
 ·rw[sW s,s.next];exact h.idb i (by rw[←hl];exact hi)
def cU(f:fZ)(t:Nat):fZ:={f with roots:=f.roots++[(f.next,(f.roots.getD t (0,0)).2)],next:=f.next+1,cur:=f.cur.set (aB f t) (cu f (aB f t)+1)}
theorem Inv.clone(h:Inv f)(ht:t<f.roots.length)(jr:f.roots.length<16)(hn:f.next<65535):Inv (cU f t):=by
 obtain⟨d,hd⟩:=h.ic.root_live (aO ht);have gd:f.nodes (aB f t)=some d:=hd;have hb:=h.ic.lt gd;have hl:(cU f t).cur.length=f.cur.length:=by simp[cU]
 have hg:∀x,cu (cU f t) x=if aB f t=x then cu f (aB f t)+1 else cu f x:=fun x=>fE f _ x _ hb;have qu:(cU f t).roots.length=f.roots.length+1:=by simp[cU]
 have bw:∀u,(cU f t).roots.getD u (0,0)=if u<f.roots.length then f.roots.getD u (0,0)else if u=f.roots.length then(f.next,(f.roots.getD t (0,0)).2)else(0,0):=fun u=>by
  show(f.roots++[_]).getD u (0,0)=_
  rw[cM];split
  ·rfl
  ·split
   ·rename_i e;subst e;simp
   ·rename_i h1 h2
    obtain⟨m,hm⟩:∃m,u-f.roots.length=m+1:=⟨u-f.roots.length-1,by omega⟩;rw[hm];rfl
 have fl:∀u,u<f.roots.length+1→aB (cU f t) u=aB f (if u<f.roots.length then u else t):=fun u hu=>by
  unfold aB;rw[bw];by_cases e:u<f.roots.length
  ·rw[if_pos e,if_pos e]
  ·rw[if_neg e,if_pos (by omega),if_neg e]
 have Q0:∀u,u<f.roots.length+1→rid (cU f t) u=if u<f.roots.length then rid f u else f.next:=fun u hu=>by
  unfold rid;rw[bw];by_cases e:u<f.roots.length
  ·rw[if_pos e,if_pos e]
  ·rw[if_neg e,if_pos (by omega),if_neg e]
 have iy:=h.nx;refine⟨⟨by rw[hl];exact h.ic.n8,by rw[hl];exact h.ic.n512,by rw[hl];exact h.ic.len,fun x hx=>?_,⟨fun x=>?_,fun x=>?_⟩,h.ic.two,fun r hr=>?_,fun x e hx=>?_,h.ic.ht⟩,by omega,by omega,fun u hu=>?_,fun i j g8 hj=>?_,fun i hi=>?_,?_,h.gn,h.cm0,h.cmr⟩
 ·rw[hl]at hx
  have h0:=h.ic.D0 x hx;unfold df at h0 ⊢;rw[hl,hg];have XF:rc (cU f t).roots x=rc f.roots x+one (aB f t) x:=by
   unfold rc;show((f.roots++[(f.next,(f.roots.getD t (0,0)).2)]).map fun r=>r.2.toNat).count x=_
   rw[List.map_append,List.count_append];congr 1;show([aB f t]:List Nat).count x=_
   simp[List.count_cons,one]
  rw[XF];show _ -((_+deg f.nodes _ x:Nat):Int)=0
  by_cases e:aB f t=x
  ·subst e;rw[if_pos rfl,cA];omega
  ·rw[if_neg e,fU e];omega
 ·rw[hg];split
  ·rename_i e;subst e
   show f.nodes _=none↔_
   rw[gd];have:=h.ic.cu_pos gd;constructor
   ·intro q;cases q
   ·intro q;omega
  ·exact h.ic.dom.dead x
 ·rw[hg];have:=h.ic.dom.pos x;have:=h.ic.dom.pos (aB f t);split<;>omega
 ·rw[hl]
  have jo:r∈f.roots++[(f.next,(f.roots.getD t (0,0)).2)]:=hr;rcases List.mem_append.1 jo with jo | jo
  ·exact h.ic.rb r jo
  ·simp only[List.mem_cons,List.not_mem_nil,or_false]at jo
   subst jo;exact(h.ic.rb (f.roots.getD t (0,0)) (aO ht))
 ·rw[hl];exact h.ic.kb x e hx
 ·rw[qu]at hu
  rw[fl u hu];split
  ·exact h.ok u (by assumption)
  ·exact h.ok t ht
 ·rw[qu]at hj
  rw[Q0 i (by omega),Q0 j hj,if_pos (by omega)];split
  ·exact h.ids i j g8 (by assumption)
  ·exact(h.idb i (by omega)).2
 ·rw[qu]at hi
  rw[Q0 i hi];show _∧_<f.next+1
  split
  ·have:=h.idb i (by assumption);omega
  ·omega
 ·show 1≤f.next+1∧f.next+1≤65535;omega
def fO(f:fZ)(t:Nat):fZ:={f with roots:=delE f.roots t}
def drop(f:fZ)(t H:Nat):fZ×Int:=unname H (fO f t) (aB f t)
theorem aMQ(h:Ab f g fun _=>False):f=g:=by
 obtain⟨h1,h2,h3,h4,h5,h6,h7,h8⟩:=h;cases f;cases g;simp only at *;subst h1;subst h2;subst h5;subst h6;subst h7;subst h8;congr;exact funext fun x=>h3 x (fun q=>q)
theorem yS(hh:Hts nodes ht):∀{h b:Nat} {lo hi:OB},Ok nodes h b lo hi→ht b=h
 | 0,b,lo,hi,hk=>by
  obtain⟨es,e1,_⟩:=hk;rcases hh b _ e1 with⟨_,q⟩ | ⟨q,_⟩
  ·exact q
  ·simp at q
 | h+1,b,lo,hi,hk=>by
  obtain⟨es,e1,_,e3,_,e5⟩:=hk;have h0:0<es.length:=List.length_pos_iff.2 e3;have:=yS hh (e5 0 h0).2;have:=eK (hh b _ e1) (aP h0);omega
theorem wJ(h:Inv f)(ht:t<f.roots.length)(h1:1<f.roots.length)(hk:Ok f.nodes H (aB f t) none none):
  Inv (drop f t H).1∧qR H (fO f t) (aB f t)∧(drop f t H).2=(fG f.nodes f.cur.length:Int) -(fG (drop f t H).1.nodes f.cur.length:Int)∧(drop f t H).1.cur.length=f.cur.length∧(drop f t H).1.roots=delE f.roots t∧
   (drop f t H).1.next=f.next∧(drop f t H).1.gen=f.gen∧(drop f t H).1.com=f.com∧(drop f t H).1.table=f.table∧(∀x,(drop f t H).1.nodes x=f.nodes x∨(drop f t H).1.nodes x=none):=by
 obtain⟨uu,hI⟩:=h.ic.ip;have jw:∀r∈delE f.roots t,r∈f.roots:=fun r hr=>nW hr;have L0:IP (fO f t) uu:=⟨hI.n8,hI.n512,hI.len,⟨hI.dom.dead,hI.dom.pos⟩,hI.two,fun r hr=>hI.rb r (jw r hr),hI.kb,hI.ht⟩;obtain⟨d,hd⟩:=h.ic.root_live (aO ht);have hb:aB f t<f.cur.length:=h.ic.lt (show f.nodes (aB f t)=some d from hd);have hE:∀x,x <(fO f t).cur.length→df (fO f t) x=(one (aB f t) x:Int):=fun x hx=>by
  have h0:=h.ic.D0 x hx;have hc:=fQ (f.roots.map fun r=>r.2.toNat) t x (by simpa using ht);have g1:(f.roots.map fun r=>r.2.toNat).getD t 0=aB f t:=by simp[aB,gD,ht]
  rw[g1]at hc;have e:rc (fO f t).roots x=(delE (f.roots.map fun r=>r.2.toNat) t).count x:=by
   unfold rc fO;congr 1;simp[delE,List.map_take,List.map_drop]
  unfold df at h0 ⊢;rw[e];show cu f x -((_+deg f.nodes f.cur.length x:Nat):Int)=_
  have:rc f.roots x=(f.roots.map fun r=>r.2.toNat).count x:=rfl
  omega
 obtain⟨s1,⟨g,a1,a2,a3,a4,a5,a6,a7,a8,a9,a10,a11⟩⟩:=vR (h:=H) (f:=fO f t) (g:=fO f t) (A:=fun _=>False) ⟨rfl,rfl,fun _ _=>rfl,fun _ q=>q.elim,rfl,rfl,rfl,rfl⟩ L0 hE hb (by rw[cA];exact nR _) (yS hI.ht hk);have hg:(drop f t H).1=g:=aMQ a1;have h6:(drop f t H).2=0+((fG f.nodes f.cur.length:Int) -(fG g.nodes f.cur.length:Int)):=a6;have ah:g.cur.length=f.cur.length:=a4;have my:g.roots=delE f.roots t:=a7;have ic:IC g:=a2.ic fun x hx=>by
  rw[a3 x hx];simp only[List.count_nil,List.count_cons,beq_iff_eq,one];omega
 have AP:=bI f.roots t ht;have bw:∀u,g.roots.getD u (0,0)=f.roots.getD (if u<t then u else u+1) (0,0):=fun u=>by
  rw[my,gZ _ _ _ (by omega)];split<;>rfl
 have fl:∀u,aB g u=aB f (if u<t then u else u+1):=fun u=>by unfold aB;rw[bw]
 have DR:∀u,rid g u=rid f (if u<t then u else u+1):=fun u=>by unfold rid;rw[bw]
 have Cu:∀b,co g b=co f b:=fun b=>by unfold co;rw[a8];rfl
 have lk:∀x d,(∃d,g.nodes x=some d)→f.nodes x=some d→∀c∈kids d,∃d,g.nodes c=some d:=fun x d ⟨d',hx⟩ bq c hc=>by
  have:g.nodes x=some d:=by
   rcases a5 x with q | q
   ·rw[q];exact bq
   ·rw[q]at hx;cases hx
  exact ic.kid_live this hc
 have gj:∀x,(∃d,g.nodes x=some d)→g.nodes x=f.nodes x:=fun x ⟨d',hx⟩=>by
  rcases a5 x with q | q
  ·exact q
  ·rw[q]at hx;cases hx
 rw[hg];refine⟨⟨ic,by rw[my,AP];omega,by rw[my,AP];have:=h.r16;omega,fun u hu=>?_,fun i j g8 hj=>?_,fun i hi=>?_,by rw[a9];exact h.nx,by rw[a10];exact h.gn,fun b xi=>by rw[Cu];exact h.cm0 b xi,fun b=>by rw[Cu];exact h.cmr b⟩,s1,by rw[h6];omega,ah,my,a9,a10,a8,a11,a5⟩
 ·rw[my,AP]at hu
  have en:=ic.root_live (aO (f:=g) (t:=u) (by rw[my,AP];exact hu));have Bh:∃d,g.nodes (aB g u)=some d:=en;rw[fl]at Bh ⊢;obtain⟨h',k1,k2⟩:=h.ok (if u<t then u else u+1) (by split<;>omega);refine⟨h',Ok.frame lk gj _ _ _ _ Bh k1,?_⟩;rcases k2 with k2 | k2
  ·exact .inl k2
  ·refine .inr ?_
   unfold sz at k2 ⊢;rw[gj _ Bh];exact k2
 ·rw[my,AP]at hj
  rw[DR,DR];by_cases q:i<t
  ·rw[if_pos q]
   by_cases q':j<t
   ·rw[if_pos q'];exact h.ids i j g8 (by omega)
   ·rw[if_neg q'];exact h.ids i _ (by omega) (by omega)
  ·rw[if_neg q,if_neg (by omega)];exact h.ids _ _ (by omega) (by omega)
 ·rw[my,AP]at hi
  rw[DR,a9];exact h.idb _ (by split<;>omega)
def mJ(nodes:Nat→Option Nd)(b:Nat):List E3:=((nodes b).getD (0,[])).2
theorem cH(h:nodes b=some d):mJ nodes b=d.2:=by simp[mJ,h]
def aS(nodes:Nat→Option Nd):Nat→Nat→List (ByteArray×ByteArray)
 | 0,b=>(mJ nodes b).map fun e=>(e.1,e.2.1)
 | h+1,b=>(mJ nodes b).flatMap fun e=>aS nodes h (ch e)
def find(nodes:Nat→Option Nd):Nat→Nat→ByteArray→OB
 | 0,b,key=>if fC (mJ nodes b) key=true then some ((mJ nodes b).getD (cLt (mJ nodes b) key) e0).2.1 else none
 | h+1,b,key=>find nodes h (kd (mJ nodes b) (bK (mJ nodes b) key)) key
def eY(l:List (ByteArray×ByteArray))(key:ByteArray):OB:=(l.find? fun p=>p.1.toList == key.toList).map fun p=>p.2
theorem eG:∀{h b:Nat} {lo hi:OB},Ok nodes h b lo hi→∀p∈aS nodes h b,loR lo p.1∧hiR hi p.1
 | 0,b,lo,hi,hk,p,hp=>by
  obtain⟨es,e1,e2,_⟩:=hk;simp only[aS,cH e1,List.mem_map]at hp;obtain⟨e,he,rfl⟩:=hp;obtain⟨j,hj,rfl⟩:=cN he;exact⟨e2.lo j hj,e2.hi j hj⟩
 | h+1,b,lo,hi,hk,p,hp=>by
  obtain⟨es,e1,e2,_,_,e5⟩:=hk;simp only[aS,cH e1,List.mem_flatMap]at hp;obtain⟨e,he,hp⟩:=hp;obtain⟨j,hj,rfl⟩:=cN he;obtain⟨g1,g2⟩:=eG (e5 j hj).2 p hp;constructor
  ·cases lo with
   | none=>trivial
   | some l=>exact fF (e2.lo j hj) g1
  ·by_cases q:j+1<es.length
   ·rw[cJ _ q]at g2;exact rO g2 (e2.hi _ q)
   ·rw[eM _ q]at g2;exact g2
theorem iU(h:∀p∈l,p.1≠key):eY (l++m) key=eY m key:=by
 unfold eY;rw[List.find?_append];have:l.find? (fun p=>p.1.toList == key.toList)=none:=List.find?_eq_none.2 fun p hp q=>h p hp (gQ (by simpa using q));rw[this];rfl
theorem sC(h:∀p∈l,p.1≠key):eY l key=none:=by
 unfold eY;have:l.find? (fun p=>p.1.toList == key.toList)=none:=List.find?_eq_none.2 fun p hp q=>h p hp (gQ (by simpa using q));rw[this];rfl
theorem nV(h:∀p∈m,p.1≠key):eY (l++m) key=eY l key:=by
 cases e:eY l key with
 | none=>
  have:eY (l++m) key=eY m key:=by
   unfold eY at e ⊢;rw[List.find?_append];have e':l.find? (fun p=>p.1.toList == key.toList)=none:=by simpa using e
   rw[e'];rfl
  rw[this];exact sC h
 | some v=>
  unfold eY at e ⊢;rw[List.find?_append];cases e':l.find? (fun p=>p.1.toList == key.toList)with
  | none=>rw[e']at e;cases e
  | some p=>rw[e']at e;rw[Option.some_or];exact e
theorem rJ{α:Type}(es:List E3)(g:E3→List α)(hi:i<es.length):es.flatMap g=(es.take i).flatMap g++(g (es.getD i e0)++(es.drop (i+1)).flatMap g):=by
 have:es=es.take i++(es.getD i e0 :: es.drop (i+1)):=by
  have h2:es.drop i=es.getD i e0 :: es.drop (i+1):=by
   rw[gD,gE hi];exact List.drop_eq_getElem_cons hi
  rw[←h2,List.take_append_drop]
 conv=>lhs;rw[this]
 rw[List.flatMap_append,List.flatMap_cons]
theorem rH{key:ByteArray}:∀{h b:Nat} {lo hi:OB},Ok nodes h b lo hi→find nodes h b key=eY (aS nodes h b) key
 | 0,b,lo,hi,hk=>by
  obtain⟨es,e1,e2,_⟩:=hk;simp only[find,aS,cH e1];by_cases hh:fC es key=true
  ·rw[if_pos hh]
   obtain⟨k1,k2⟩:=(dG es key).1 hh;generalize cLt es key=i at *;have kr:es.map (fun e=>(e.1,e.2.1))=(es.take i).map (fun e=>(e.1,e.2.1))++((es.getD i e0).1,(es.getD i e0).2.1) ::(es.drop (i+1)).map (fun e=>(e.1,e.2.1)):=by
    have h2:es.drop i=es.getD i e0 :: es.drop (i+1):=by
     rw[gD,gE k1];exact List.drop_eq_getElem_cons k1
    rw[←List.map_cons (f:=fun e:E3=>(e.1,e.2.1)),←h2,←List.map_append,List.take_append_drop]
   rw[kr,iU]
   ·unfold eY
    have:((es.getD i e0).1.toList == key.toList)=true:=by rw[show(es.getD i e0).1=key from k2];simp
    rw[List.find?_cons_of_pos (p:=fun p:ByteArray×ByteArray=>p.1.toList == key.toList) (a:=((es.getD i e0).1,(es.getD i e0).2.1)) this];rfl
   ·intro p hp q
    obtain⟨e,he,rfl⟩:=List.mem_map.1 hp;obtain⟨j,hj,rfl⟩:=List.mem_take_iff_getElem.1 he;have:=e2.srt j i (by omega) k1;have e3:ky es j=es[j].1:=by unfold ky;rw[gD,gE (by omega)];rfl
    rw[k2,e3,q,eA]at this;cases this
  ·rw[if_neg hh]
   refine(sC fun p hp q=>?_).symm;obtain⟨e,he,rfl⟩:=List.mem_map.1 hp;obtain⟨j,hj,rfl⟩:=cN he;exact hh (jW e2.srt hj q).1
 | h+1,b,lo,hi,hk=>by
  obtain⟨es,e1,e2,e3,e4,e5⟩:=hk;simp only[find,aS,cH e1];have fe:=eB key e3;have ih:=rH (key:=key) (e5 _ fe).2;rw[ih,rJ es _ fe];have bad:∀j,j<es.length→j≠bK es key→∀p∈aS nodes h (kd es j),p.1≠key:=fun j hj av p hp q=>by
   obtain⟨g1,g2⟩:=eG (e5 j hj).2 p hp;rw[q]at g1 g2;exact av (aCM e2.srt key hj g1 fun q'=>by rw[cJ _ q']at g2;exact g2).symm
  rw[iU,nV]
  ·rfl
  ·intro p hp
   obtain⟨e,he,hp⟩:=List.mem_flatMap.1 hp;obtain⟨j,hj,rfl⟩:=List.mem_drop_iff_getElem.1 he;have:es[bK es key+1+j]=es.getD (bK es key+1+j) e0:=by rw[gD,gE (by omega)];rfl
   rw[this]at hp;exact bad _ (by omega) (by omega) p hp
  ·intro p hp
   obtain⟨e,he,hp⟩:=List.mem_flatMap.1 hp;obtain⟨j,hj,rfl⟩:=List.mem_take_iff_getElem.1 he;have:es[j]=es.getD j e0:=by rw[gD,gE (by omega)];rfl
   rw[this]at hp;exact bad _ (by omega) (by omega) p hp
theorem kS{v:ByteArray}:∀{h b:Nat} {lo hi:OB},Ok nodes h b lo hi→find nodes h b key=some v→Mem nodes h b key
 | 0,b,lo,hi,hk,hf=>by
  obtain⟨es,e1,e2,_⟩:=hk;simp only[find,cH e1]at hf;by_cases hh:fC es key=true
  ·obtain⟨k1,k2⟩:=(dG es key).1 hh
   exact⟨es,e1,_,k1,k2⟩
  ·rw[if_neg hh]at hf;cases hf
 | h+1,b,lo,hi,hk,hf=>by
  obtain⟨es,e1,e2,e3,e4,e5⟩:=hk;simp only[find,cH e1]at hf;have fe:=eB key e3;exact⟨es,e1,_,fe,kS (e5 _ fe).2 hf⟩
theorem jY:∀{h b:Nat} {lo hi:OB},Ok nodes h b lo hi→(aS nodes h b).Pairwise fun p q=>kl p.1 q.1=true
 | 0,b,lo,hi,hk=>by
  obtain⟨es,e1,e2,_⟩:=hk;simp only[aS,cH e1];rw[List.pairwise_map];rw[List.pairwise_iff_getElem];intro i j hi hj g8;have:=e2.srt i j g8 hj;have g:∀i (h:i<es.length),ky es i=es[i].1:=fun i h=>by unfold ky;rw[gD,gE h];rfl
  rw[g i hi,g j hj]at this;exact this
 | h+1,b,lo,hi,hk=>by
  obtain⟨es,e1,e2,e3,e4,e5⟩:=hk;simp only[aS,cH e1];rw[List.pairwise_flatMap];have g:∀i (h:i<es.length),es[i]=es.getD i e0:=fun i h=>by rw[gD,gE h];rfl
  refine⟨fun e he=>?_,?_⟩
  ·obtain⟨j,hj,rfl⟩:=cN he
   exact jY (e5 j hj).2
  ·rw[List.pairwise_iff_getElem]
   intro i j hi hj g8 p hp q hq;rw[g i hi]at hp;rw[g j hj]at hq;have a:=(eG (e5 i hi).2 p hp).2;have b':=(eG (e5 j hj).2 q hq).1;rw[cJ _ (by omega)]at a;have a':kl p.1 (ky es (i+1))=true:=a;have b'':kl q.1 (ky es j)=false:=b';by_cases e:i+1=j
   ·rw[e]at a';exact kX a' b''
   ·exact kX (jN a' (e2.srt (i+1) j (by omega) hj)) b''
theorem Mem.frame_iff{U:Nat→Prop}(hU:∀x d,U x→nodes x=some d→∀c∈kids d,U c)(he:∀x,U x→nodes' x=nodes x)(hb:U b):Mem nodes h b key↔Mem nodes' h b key:=
 ⟨Mem.frame hU he h b hb,Mem.frame (fun x d hx hd c hc=>hU x d hx (by rw[←he x hx];exact hd) c hc) (fun x hx=>(he x hx).symm) h b hb⟩
theorem kN.iff(hf:∀c∈kids d,∀h',Mem nodes h' c key↔Mem nodes' h' c key):kN nodes h d key↔kN nodes' h d key:=by
 obtain⟨k,es⟩:=d;cases h with
 | zero=>exact Iff.rfl
 | succ h=>
  constructor
  ·rintro⟨e1,e,he,e2⟩;simp only at e1 he;subst e1;exact⟨rfl,e,he,(hf _ (aV.2 ⟨e,he,rfl⟩) h).1 e2⟩
  ·rintro⟨e1,e,he,e2⟩;simp only at e1 he;subst e1;exact⟨rfl,e,he,(hf _ (aV.2 ⟨e,he,rfl⟩) h).2 e2⟩
theorem kN.cut(m:Nat):kN nodes h (k,es) key↔kN nodes h (k,es.take m) key∨kN nodes h (k,es.drop m) key:=by
 have jw:∀e,e∈es↔e∈es.take m∨e∈es.drop m:=fun e=>by rw[←List.mem_append,List.take_append_drop]
 cases h with
 | zero=>
  constructor
  ·rintro⟨e1,e,he,e2⟩
   rcases(jw e).1 he with q | q
   ·exact .inl ⟨e1,e,q,e2⟩
   ·exact .inr ⟨e1,e,q,e2⟩
  ·rintro(⟨e1,e,he,e2⟩ | ⟨e1,e,he,e2⟩)
   ·exact⟨e1,e,(jw e).2 (.inl he),e2⟩
   ·exact⟨e1,e,(jw e).2 (.inr he),e2⟩
 | succ h=>
  constructor
  ·rintro⟨e1,e,he,e2⟩
   rcases(jw e).1 he with q | q
   ·exact .inl ⟨e1,e,q,e2⟩
   ·exact .inr ⟨e1,e,q,e2⟩
  ·rintro(⟨e1,e,he,e2⟩ | ⟨e1,e,he,e2⟩)
   ·exact⟨e1,e,(jw e).2 (.inl he),e2⟩
   ·exact⟨e1,e,(jw e).2 (.inr he),e2⟩
theorem Wk.lowKey_mem(w:Wk f t H)(p:aN f t H P b (h+1) lo hi)(af:f.nodes b=some (2,es))(key key':ByteArray):
  Mem f.nodes (h+1) b key'↔Mem (setN f b (2,lowK es key)).nodes (h+1) b key':=by
 obtain⟨_,q1,_,av⟩:=p.inner w;rw[af]at q1;cases q1;have vp:(setN f b (2,lowK es key)).nodes b=some (2,lowK es key):=aD _ _ _;obtain⟨U,lk,gj,hU⟩:=p.cl w.ic w.tl af (nodes':=(setN f b (2,lowK es key)).nodes) (fun _=>False) (fun _ q=>q.elim) (fun x d hx uv _=>by show upd _ _ _ x=_;rw[aC _ _ uv];exact hx);have hk:∀j,j<es.length→(Mem f.nodes h (kd es j) key'↔Mem (setN f b (2,lowK es key)).nodes h (kd es j) key'):=fun j hj=>by
  obtain⟨d,hd⟩:=w.ic.kid_live af (aP hj);exact Mem.frame_iff lk gj (hU _ d hd (p.kid_off w.ic af (aP hj)) id)
 have ie:∀j,kd (lowK es key) j=kd es j:=fun j=>by unfold kd ch;rw[(zE es key j av).1]
 constructor
 ·rintro⟨es',e1,j,hj,e2⟩
  rw[af]at e1;cases e1;exact⟨_,vp,j,by rw[cI];exact hj,by rw[ie];exact(hk j hj).1 e2⟩
 ·rintro⟨es',e1,j,hj,e2⟩
  rw[vp]at e1;cases e1;rw[cI]at hj;rw[ie]at e2;exact⟨es,af,j,hj,(hk j hj).2 e2⟩
theorem Wk.shadow_mem(w:Wk f t H)(p:aN f t H P b (h+1) lo hi)(af:f.nodes b=some (2,es))(ak:i<es.length)(hs:shadow f (.ent b i)=some (g,c))(key:ByteArray)(h':Nat):
  Mem f.nodes h' (kd es i) key↔Mem g.nodes h' c key:=by
 have gx:look f b=(2,es):=aE af;have hg:bJ f (.ent b i)=kd es i:=by simp only[bJ,gx];rfl
 unfold shadow at hs;rw[hg]at hs;by_cases ho:own f (kd es i)
 ·rw[if_pos ho]at hs;cases hs;exact Iff.rfl
 ·rw[if_neg ho]at hs
  by_cases hl:aF f=0
  ·rw[if_pos hl]at hs;cases hs
  ·rw[if_neg hl]at hs;cases hs
   obtain⟨h9,mj,hc,_⟩:=aR hl;generalize aF f=q at *;obtain⟨d,hd⟩:=w.ic.kid_live af (aP ak);have hL:dO f (.ent b i):=⟨w.ic.lt af,es,af,ak⟩;obtain⟨I1,I2,I3,I4,I5⟩:=w.ic.shadow hL hg hd h9 mj hc;have dh:f.nodes q=none:=(w.ic.dom.dead q).2 hc;have fi:=aP ak;have AH:kd es i≠q:=fun e=>by rw[e,dh]at hd;cases hd
   have mh:b≠q:=fun e=>by rw[e,dh]at af;cases af
   have AW:=w.ic.not_self hd;have nq:(shadowAt f (.ent b i) q).nodes q=some d:=by
    rw[I2];unfold shN cpN;simp only;split
    ·rw[aC _ _ (Ne.symm AH),aC _ _ (Ne.symm mh),aD]
    ·rw[aC _ _ (Ne.symm mh),aD]
   have nx:∀x,x≠b→x≠q→¬(x=kd es i∧cu f (kd es i)=1)→(shadowAt f (.ent b i) q).nodes x=f.nodes x:=fun x h1 h2 h3=>by
    rw[I2];unfold shN cpN;simp only;split
    ·rename_i ot
     rw[aC _ _ (fun e=>h3 ⟨e,ot⟩),aC _ _ h1,aC _ _ h2]
    ·rw[aC _ _ h1,aC _ _ h2]
   have en:∀{x:Nat} {d':Nd},f.nodes x=some d'→x≠q:=fun hx e=>by rw[e,dh]at hx;cases hx
   obtain⟨U,lk,gj,hU⟩:=p.cl w.ic w.tl af (nodes':=(shadowAt f (.ent b i) q).nodes) (fun x=>x=kd es i∧cu f (kd es i)=1) (fun x ⟨q1,q2⟩=>⟨by rw[q1];exact q2,by rw[q1];exact fi⟩) (fun x d hx uv Ae=>by rw[nx x uv (en hx) Ae];exact hx);rw[bO nq,bO hd];refine kN.iff fun c bo U8=>?_;obtain⟨dc,i9⟩:=w.ic.kid_live hd bo;exact Mem.frame_iff lk gj (hU c dc i9 (p.kid2_off w.ic af fi hd bo).1 fun q'=>AW (q'.1▸bo))
theorem Wk.split_mem(w:Wk f t H)(p:aN f t H P b (h+1) lo hi)(af:f.nodes b=some (2,es))(ak:i<es.length)(hd:f.nodes (kd es i)=some (k,ces))(h1:cu f (kd es i)=1)
  {m q:Nat} (mj:q<f.cur.length) (hc:cu f q=0) (hm:2≤m) (g9:m+2≤ces.length) (h9:2≤q) (key:ByteArray):
  let f':=splitF f b es i (kd es i) k ces m q (ky ces m)
  Mem f.nodes h (kd es i) key↔Mem f'.nodes h (kd es i) key∨Mem f'.nodes h q key:=by
 intro f';obtain⟨I1,I2⟩:=w.ic.split (key:=ky ces m) (m:=m) af ak (rfl:kd es i=_) hd (by omega) (by omega) h9 mj hc;have dh:f.nodes q=none:=(w.ic.dom.dead q).2 hc;have fi:=aP ak;have sc:kd es i≠b:=fun e=>w.ic.not_self af (by rw[←e];exact fi);have AH:kd es i≠q:=fun e=>by rw[e,dh]at hd;cases hd
 have mh:b≠q:=fun e=>by rw[e,dh]at af;cases af
 have AW:=w.ic.not_self hd;have nq:f'.nodes q=some (k,ces.drop m):=by rw[I2,aC _ _ (Ne.symm mh),aD]
 have nc:f'.nodes (kd es i)=some (k,ces.take m):=by rw[I2,aC _ _ sc,aC _ _ AH,aD]
 have nx:∀x,x≠b→x≠q→x≠kd es i→f'.nodes x=f.nodes x:=fun x h1 h2 h3=>by rw[I2,aC _ _ h1,aC _ _ h2,aC _ _ h3]
 have en:∀{x:Nat} {d':Nd},f.nodes x=some d'→x≠q:=fun hx e=>by rw[e,dh]at hx;cases hx
 obtain⟨U,lk,gj,hU⟩:=p.cl w.ic w.tl af (nodes':=f'.nodes) (fun x=>x=kd es i) (fun x q1=>by rw[q1];exact⟨h1,fi⟩) (fun x d hx uv Ae=>by rw[nx x uv (en hx) Ae];exact hx);have hk:∀c∈kids (k,ces),∀h',Mem f.nodes h' c key↔Mem f'.nodes h' c key:=fun c bo h'=>by
  obtain⟨dc,i9⟩:=w.ic.kid_live hd bo;exact Mem.frame_iff lk gj (hU c dc i9 (p.kid2_off w.ic af fi hd bo).1 fun q'=>AW (q'▸bo))
 rw[bO nq,bO nc,bO hd,kN.iff hk,kN.cut m]
theorem Wk.stepDown_mem(w:Wk f t H)(p:aN f t H P b (h+1) lo hi)(hl:loR lo key)(h5:sz f.nodes b<5)(hs:Fo.stepDown f b key=some (g,c)):
  Mem f.nodes (h+1) b key↔Mem g.nodes h c key:=by
 obtain⟨es,af,so,av⟩:=p.inner w;have hz:es.length<5:=by unfold sz at h5;rw[af]at h5;exact h5
 obtain⟨w1,p1,r1⟩:=w.lowKey p af key hl;have k1:=w.lowKey_mem p af key key;unfold Fo.stepDown at hs;rw[aE af]at hs;simp only at hs;generalize hK:lowK es key=es1 at *;have ew:(setN f b (2,es1)).nodes b=some (2,es1):=aD _ _ _;have ee:es1.length=es.length:=by rw[←hK];exact cI es key
 have lw:es1≠[]:=fun e=>av (List.length_eq_zero_iff.1 (by rw[←ee,e];rfl));have fe:bK es1 key<es1.length:=eB key lw;have k2:Mem (setN f b (2,es1)).nodes (h+1) b key↔Mem (setN f b (2,es1)).nodes h (kd es1 (bK es1 key)) key:=⟨fun hm=>Mem.at ew (p1.ok w1.ok).1 hm,fun hm=>⟨es1,ew,_,fe,hm⟩⟩;generalize bK es1 key=i at *;cases al:shadow (setN f b (2,es1)) (.ent b i)with
 | none=>rw[al]at hs;cases hs
 | some gc=>
  obtain⟨g1,c1⟩:=gc;rw[al]at hs;simp only at hs;obtain⟨w2,p2,p3,⟨es2,m1,m2,m3,m4⟩,m5,m6,m7,m8,m9⟩:=w1.shadow_ent p1 ew fe al;have k3:=w1.shadow_mem p1 ew fe al key h;obtain⟨⟨k,ces⟩,hd⟩:=w2.ic.live (x:=c1) (by rw[m6];omega);rw[aE hd]at hs;simp only at hs;by_cases hfull:ces.length=5
  ·rw[if_pos hfull]at hs
   by_cases hlw:aF g1=0
   ·rw[if_pos hlw]at hs;cases hs
   ·rw[if_neg hlw,aE m1]at hs
    simp only at hs
    obtain⟨l1,l2,l3,l4⟩:=aR hlw;have yn:i<es2.length:=by rw[m2];exact fe
    obtain⟨w4,p4,p5,p6,n1,n2,n3,n4⟩:=w2.split p2 m1 (by rw[m2,ee];exact hz) yn (by rw[m4];exact hd) (by rw[m4];exact m6) (m:=3) (by omega) (by omega) l1 l2 l3;have k4:=w2.split_mem p2 m1 yn (by rw[m4];exact hd) (by rw[m4];exact m6) (m:=3) l2 l3 (by omega) (by omega) l1 key;rw[m4]at w4 p4 p5 p6 n1 n2 n3 n4 k4;simp only[sJ,Prod.mk.injEq]at hs;obtain⟨rfl,rfl⟩:=hs;simp only at k4;rw[k1,k2,k3,k4];by_cases mu:kl key (ky ces 3)=true
    ·rw[if_pos mu]
     refine⟨fun q=>q.resolve_right fun q=>?_,.inl⟩;have b1:=(Mem.bounds (p6.ok w4.ok).1 q).1;have b2:kl key (ky ces 3)=false:=b1;rw[mu]at b2;cases b2
    ·rw[if_neg mu]
     refine⟨fun q=>q.resolve_left fun q=>?_,.inr⟩;have b1:=(Mem.bounds (p5.ok w4.ok).1 q).2;exact mu b1
  ·rw[if_neg hfull]at hs
   simp only[sJ,Prod.mk.injEq]at hs;obtain⟨rfl,rfl⟩:=hs;rw[k1,k2,k3]
theorem lD:∀{h:Nat} {f:fZ} (w:Wk f t H) {P:List Nat} {b:Nat} {lo hi:OB} (p:aN f t H P b h lo hi) (hl:loR lo key) (hh:hiR hi key) (h5:sz f.nodes b<5) {g:fZ} {th:Bool} (hs:putAt h f b key val=some (g,th)),
  th=true↔Mem f.nodes h b key
 | 0,f,w,P,b,lo,hi,p,hl,hh,h5,g,th,hs=>by
  obtain⟨es,af,hn,hc⟩:=p.leaf w;unfold putAt at hs;rw[aE af]at hs;simp only[sJ,Prod.mk.injEq]at hs;obtain⟨_,rfl⟩:=hs;constructor
  ·intro q
   obtain⟨k1,k2⟩:=(dG es key).1 q;exact⟨es,af,_,k1,k2⟩
  ·rintro⟨es',e1,j,hj,e2⟩
   rw[af]at e1;cases e1;exact(jW hn.srt hj e2).1
 | h+1,f,w,P,b,lo,hi,p,hl,hh,h5,g,th,hs=>by
  unfold putAt at hs;cases ml:stepDown f b key with
  | none=>rw[ml]at hs;cases hs
  | some gc=>
   obtain⟨g1,c1⟩:=gc;rw[ml]at hs;obtain⟨P',lo',ak,w1,p1,l1,l2,l3,l4,l5⟩:=w.stepDown p hl hh h5 ml;rw[w.stepDown_mem p hl h5 ml];exact lD w1 p1 l1 l2 l3 hs
theorem Wk.shadow_root_mem(w:Wk f t H){r:Nat}(hs:shadow f (.root t)=some (g,r))(key:ByteArray)(h:Nat):Mem f.nodes h (aB f t) key↔Mem g.nodes h r key:=by
 obtain⟨w1,p1,a1,a2,a3,a4,a5,a6⟩:=w.shadow_root hs;unfold shadow at hs;have hg:bJ f (.root t)=aB f t:=rfl;rw[hg]at hs;by_cases ho:own f (aB f t)
 ·rw[if_pos ho]at hs;cases hs;exact Iff.rfl
 ·rw[if_neg ho]at hs
  by_cases hl:aF f=0
  ·rw[if_pos hl]at hs;cases hs
  ·rw[if_neg hl]at hs
   simp only[sJ,Prod.mk.injEq]at hs;obtain⟨iv,yl⟩:=hs;obtain⟨l1,l2,l3,_⟩:=aR hl;obtain⟨d,hd⟩:=w.ic.root_live (aO w.tl);have gd:f.nodes (aB f t)=some d:=hd;obtain⟨I1,I2,_⟩:=w.ic.shadow (L:=.root t) w.tl rfl hd l1 l2 l3;have dh:f.nodes (aF f)=none:=(w.ic.dom.dead _).2 l3;have vu:g.nodes=if cu f (aB f t)=1 then upd (upd f.nodes (aF f) (some d)) (aB f t) none else upd f.nodes (aF f) (some d):=by rw[←iv];exact I2
   let U:Nat→Prop:=fun x=>(∃d,f.nodes x=some d)∧(cu f (aB f t)=1→x≠aB f t)
   have lk:∀x d,U x→f.nodes x=some d→∀c∈kids d,U c:=fun x d' _ hx c bo=>
    ⟨w.ic.kid_live hx bo,fun h1 e=>(w.ic.onlyRoot (aO w.tl) h1).2 x d' hx (by have:c=(f.roots.getD t (0,0)).2.toNat:=e;rw[←this];exact bo)⟩
   have gj:∀x,U x→g.nodes x=f.nodes x:=fun x ⟨⟨d',hx⟩,h1⟩=>by
    have Bx:x≠aF f:=fun e=>by rw[e,dh]at hx;cases hx
    rw[vu];split
    ·rename_i ot;rw[aC _ _ (h1 ot),aC _ _ Bx]
    ·rw[aC _ _ Bx]
   have nr:g.nodes r=some d:=by rw[a2];exact gd
   rw[bO nr,bO gd];exact kN.iff fun c bo h'=>Mem.frame_iff lk gj ⟨w.ic.kid_live gd bo,fun _ e=>w.ic.not_self gd (e▸bo)⟩
theorem Wk.grow_mem(w:Wk f t H)(h1:cu f (aB f t)=1)(hd:f.nodes (aB f t)=some (k,es)){m q top:Nat}(hm:2≤m)(g9:m+2≤es.length)
  (h9:2≤q) (mj:q<f.cur.length) (hq:cu f q=0) (Ac:2≤top) (DS:top<f.cur.length) (qv:cu f top=0) (sq:top≠q) (key:ByteArray):
  let f':=growF f t (aB f t) k es m q top (ky es 0) (ky es m)
  Mem f.nodes H (aB f t) key↔Mem f'.nodes (H+1) top key:=by
 intro f';obtain⟨I1,I2⟩:=w.ic.grow (t:=t) (r:=aB f t) (m:=m) (ky es 0) (ky es m) w.tl rfl hd (by omega) (by omega) h9 mj hq Ac DS qv sq;have dh:f.nodes q=none:=(w.ic.dom.dead q).2 hq;have FJ:f.nodes top=none:=(w.ic.dom.dead top).2 qv;have KK:aB f t≠q:=fun e=>by rw[e,dh]at hd;cases hd
 have ez:aB f t≠top:=fun e=>by rw[e,FJ]at hd;cases hd
 have ho:=w.ic.onlyRoot (aO w.tl) h1;have ntop:f'.nodes top=some (2,[(ky es 0,.empty,(aB f t:Int)),(ky es m,.empty,(q:Int))]):=by rw[I2,aD]
 have nq:f'.nodes q=some (k,es.drop m):=by rw[I2,aC _ _ (Ne.symm sq),aD]
 have nr:f'.nodes (aB f t)=some (k,es.take m):=by rw[I2,aC _ _ ez,aC _ _ KK];exact aD _ _ _
 let U:Nat→Prop:=fun x=>(∃d,f.nodes x=some d)∧x≠aB f t
 have lk:∀x d,U x→f.nodes x=some d→∀c∈kids d,U c:=fun x d' _ hx c bo=>
  ⟨w.ic.kid_live hx bo,fun e=>ho.2 x d' hx (by have:c=(f.roots.getD t (0,0)).2.toNat:=e;rw[←this];exact bo)⟩
 have gj:∀x,U x→f'.nodes x=f.nodes x:=fun x ⟨⟨d',hx⟩,h1⟩=>by
  have Bx:x≠q:=fun e=>by rw[e,dh]at hx;cases hx
  have R4:x≠top:=fun e=>by rw[e,FJ]at hx;cases hx
  rw[I2,aC _ _ R4,aC _ _ Bx];exact aC _ _ h1
 have hk:∀c∈kids (k,es),∀h',Mem f.nodes h' c key↔Mem f'.nodes h' c key:=fun c bo h'=>
  Mem.frame_iff lk gj ⟨w.ic.kid_live hd bo,fun e=>w.ic.not_self hd (e▸bo)⟩
 have e1:ch (ky es 0,.empty,(aB f t:Int))=aB f t:=by simp[ch]
 have e2:ch (ky es m,.empty,(q:Int))=q:=by simp[ch]
 rw[bO hd,kN.iff hk,kN.cut m,←bO nr,←bO nq,bO ntop];constructor
 ·rintro(q' | q')
  ·exact⟨rfl,_,List.mem_cons_self,by rw[e1];exact q'⟩
  ·exact⟨rfl,_,List.mem_cons_of_mem _ List.mem_cons_self,by rw[e2];exact q'⟩
 ·rintro⟨_,e,he,q'⟩
  simp only[List.mem_cons,List.not_mem_nil,or_false]at he;rcases he with rfl | rfl
  ·rw[e1]at q';exact .inl q'
  ·rw[e2]at q';exact .inr q'
theorem aES(w:Wk f t H){th:Bool}(hs:put f t H key val=some (g,th)):th=true↔Mem f.nodes H (aB f t) key:=by
 unfold put at hs;cases al:shadow f (.root t)with
 | none=>rw[al]at hs;cases hs
 | some gr=>
  obtain⟨g1,r1⟩:=gr;rw[al]at hs;simp only at hs;obtain⟨w1,p1,a1,a2,a3,a4,a5,a6⟩:=w.shadow_root al;rw[w.shadow_root_mem al];obtain⟨⟨k,es⟩,hd⟩:=w1.ic.live (x:=r1) (by rw[a3];omega);have au:es.length≤5:=by
   obtain⟨d',d1,_,d2,_⟩:=((p1.ok w1.ok).1).sz_pos;rw[hd]at d1;cases d1;exact d2
  rw[aE hd]at hs;simp only at hs;by_cases hfull:es.length=5
  ·rw[if_pos hfull]at hs
   cases bm:bM g1 t r1 with
   | none=>rw[bm]at hs;cases hs
   | some kt=>
    obtain⟨g2,top⟩:=kt;rw[bm]at hs;simp only at hs;unfold bM at bm;rw[aE hd]at bm;simp only at bm;by_cases pf:aF g1=0
    ·rw[if_pos pf]at bm;cases bm
    ·rw[if_neg pf]at bm
     generalize hT:aF (takeAt (setN g1 r1 (k,es.take 3)) (aF g1) (k,es.drop 3))=tp at *;by_cases ee:tp=0
     ·rw[if_pos ee]at bm;cases bm
     ·rw[if_neg ee]at bm
      simp only[sJ,Prod.mk.injEq]at bm;obtain⟨rfl,rfl⟩:=bm;obtain⟨l1,l2,l3,l4⟩:=aR pf;obtain⟨m1,m2,m3,m4⟩:=aR (hT▸ee);rw[hT]at m1 m2 m3;have ot:∀x,cu (takeAt (setN g1 r1 (k,es.take 3)) (aF g1) (k,es.drop 3)) x=if aF g1=x then 1 else cu g1 x:=fun x=>dQ (f:=setN g1 r1 (k,es.take 3)) (k,es.drop 3) l2 x;rw[ot]at m3;have sq:tp≠aF g1:=fun e=>by rw[if_pos e.symm]at m3;omega
      rw[if_neg (Ne.symm sq)]at m3;have m2':tp<g1.cur.length:=by simpa [takeAt,setN] using m2
      subst a1;obtain⟨w2,p2,b1,b2,b3⟩:=w1.grow a3 hd (m:=3) (by omega) (by omega) l1 l2 l3 m1 m2' m3 sq;refine Iff.trans ?_ (w1.grow_mem a3 hd (m:=3) (by omega) (by omega) l1 l2 l3 m1 m2' m3 sq key).symm;exact lD w2 p2 trivial trivial (by unfold sz;rw[b3];simp) hs
  ·rw[if_neg hfull]at hs
   exact lD w1 p1 trivial trivial (by unfold sz;rw[hd];simp only;omega) hs
def gU(c:List Int)(k:Nat):List Int:=c.set k (c.getD k 0+1)
def mE(K:Nat→List Nat):Nat→Nat→List Int→List Int
 | 0,_,c=>c
 | h+1,b,c=>(K b).foldl (fun c k=>if(gU c k).getD k 0=1 then mE K h k (gU c k)else gU c k) c
def vis(K:Nat→List Nat)(h:Nat)(c:List Int)(k:Nat):List Int:=if(gU c k).getD k 0=1 then mE K h k (gU c k)else gU c k
theorem tO(K:Nat→List Nat)(h b:Nat)(c:List Int):mE K (h+1) b c=(K b).foldl (vis K h) c:=rfl
theorem jM(c:List Int)(k:Nat):(gU c k).length=c.length:=by simp[gU]
theorem nM(c:List Int)(k x:Nat)(hk:k<c.length):(gU c k).getD x 0=c.getD x 0+(one k x:Int):=by
 unfold gU;rw[eL];by_cases e:k=x
 ·subst e;rw[if_pos ⟨rfl,hk⟩,cA];rfl
 ·rw[if_neg (fun q=>e q.1),fU e];simp
def pZ(nodes:Nat→Option Nd)(n:Nat)(e:Nat→Bool)(x:Nat):Nat:=cQ n fun y=>if e y then(bZ (nodes y)).count x else 0
theorem qY{k:Nat}{e:Nat→Bool}(hk:k<n)(hd:nodes k=some d)(he:e k=false)(x:Nat):pZ nodes n (fun y=>e y || y == k) x=pZ nodes n e x+(kids d).count x:=by
 have:=lW (n:=n) (g:=fun y=>if e y then(bZ (nodes y)).count x else 0) (g':=fun y=>if(e y || y == k)=true then(bZ (nodes y)).count x else 0) hk (fun y hy=>by
  have:(y == k)=false:=by simp[hy]
  simp[this])
 have a:(if e k=true then(bZ (nodes k)).count x else 0)=0:=by rw[he];rfl
 have b:(if(e k || k == k)=true then(bZ (nodes k)).count x else 0)=(kids d).count x:=by rw[hd];simp[bZ]
 have t:pZ nodes n (fun y=>e y || y == k) x+(if e k=true then(bZ (nodes k)).count x else 0)=pZ nodes n e x+(if(e k || k == k)=true then(bZ (nodes k)).count x else 0):=this;rw[a,b]at t;exact t
structure J(f:fZ)(s:Nat→Nat)(c:List Int)(e:Nat→Bool)(P:List Nat):Prop where
 len:c.length=f.cur.length
 eq:∀x,x<f.cur.length→c.getD x 0+(P.count x:Int)=((s x+pZ f.nodes f.cur.length e x:Nat):Int)
 pos:∀x,0≤c.getD x 0
 vis:∀x,x<f.cur.length→(e x=true↔1≤c.getD x 0)
 live:∀x,e x=true→∃d,f.nodes x=some d
theorem aMG(h:IC f)(hh:Hts f.nodes ht)(hK:∀b d,f.nodes b=some d→K b=kids d){s:Nat→Nat}:
  ∀(m:Nat) (l P:List Nat) (c:List Int) (e:Nat→Bool),(∀k∈l,(∃d,f.nodes k=some d)∧ht k=m)→J f s c e (l++P)→∃e',J f s (l.foldl (vis K m) c) e' P:=by
 intro m;induction m with
 | zero=>
  intro l;induction l with
  | nil=>intro P c e hl hJ;exact⟨e,hJ⟩
  | cons k l ih=>
   intro P c e hl hJ;obtain⟨⟨d,hd⟩,gp⟩:=hl k List.mem_cons_self;have tg:=h.lt hd;have mi:k<c.length:=by rw[hJ.len];exact tg
   have pd:kids d=[]:=by
    refine List.eq_nil_iff_forall_not_mem.2 fun y hy=>?_;rcases hh k d hd with⟨q,_⟩ | ⟨_,q⟩
    ·simp[kids,q]at hy
    ·have:=q y hy;omega
   have hg:=fun x=>nM c k x mi;have au:∀x,((k :: l++P).count x:Nat)=(l++P).count x+one k x:=fun x=>by simp only[List.cons_append,List.count_cons,beq_iff_eq,one]
   rw[List.foldl_cons];refine ih P _ (if c.getD k 0=0 then(fun y=>e y || y == k)else e) (fun y hy=>hl y (List.mem_cons_of_mem _ hy)) ?_;have hv:vis K 0 c k=gU c k:=by unfold vis mE;split<;>rfl
   rw[hv];by_cases h0:c.getD k 0=0
   ·rw[if_pos h0]
    have Fx:e k=false:=by
     cases q:e k with
     | false=>rfl
     | true=>have:=(hJ.vis k tg).1 q;omega
    refine⟨by rw[jM];exact hJ.len,fun x hx=>?_,fun x=>?_,fun x hx=>?_,fun x hx=>?_⟩
    ·have:=hJ.eq x hx
     rw[au]at this;rw[hg,qY tg hd Fx,pd,List.count_nil];omega
    ·rw[hg];have:=hJ.pos x;omega
    ·rw[hg]
     by_cases q:x=k
     ·subst q;rw[cA];have hp:=hJ.pos x;exact⟨fun _=>by omega,fun _=>by simp⟩
     ·have:(x == k)=false:=by simp[q]
      rw[this,Bool.or_false,fU (Ne.symm q)];have:=hJ.vis x hx;simpa using this
    ·simp only[Bool.or_eq_true,beq_iff_eq]at hx
     rcases hx with hx | hx
     ·exact hJ.live x hx
     ·subst hx;exact⟨d,hd⟩
   ·rw[if_neg h0]
    refine⟨by rw[jM];exact hJ.len,fun x hx=>?_,fun x=>?_,fun x hx=>?_,hJ.live⟩
    ·have:=hJ.eq x hx
     rw[au]at this;rw[hg];omega
    ·rw[hg];have:=hJ.pos x;omega
    ·rw[hg]
     have h1:=hJ.vis x hx;by_cases q:k=x
     ·subst q;rw[cA]
      have:=hJ.pos k
      constructor
      ·intro _;omega
      ·intro _;exact h1.2 (by omega)
     ·rw[fU q];simpa using h1
 | succ m ihm=>
  intro l;induction l with
  | nil=>intro P c e hl hJ;exact⟨e,hJ⟩
  | cons k l ih=>
   intro P c e hl hJ;obtain⟨⟨d,hd⟩,gp⟩:=hl k List.mem_cons_self;have tg:=h.lt hd;have mi:k<c.length:=by rw[hJ.len];exact tg
   have hg:=fun x=>nM c k x mi;have au:∀x,((k :: l++P).count x:Nat)=(l++P).count x+one k x:=fun x=>by simp only[List.cons_append,List.count_cons,beq_iff_eq,one]
   rw[List.foldl_cons];by_cases h0:c.getD k 0=0
   ·have Fx:e k=false:=by
     cases q:e k with
     | false=>rfl
     | true=>have:=(hJ.vis k tg).1 q;omega
    have hv:vis K (m+1) c k=(kids d).foldl (vis K m) (gU c k):=by
     unfold vis;rw[if_pos (by rw[hg,cA,h0];rfl),tO,hK k d hd];rfl
    obtain⟨e2,nu⟩:=ihm (kids d) (l++P) (gU c k) (fun y=>e y || y == k) (fun y hy=>⟨h.kid_live hd hy,by
     rcases hh k d hd with⟨q,_⟩ | ⟨_,q⟩
     ·simp[kids,q]at hy
     ·have:=q y hy;omega⟩) (by
     refine⟨by rw[jM];exact hJ.len,fun x hx=>?_,fun x=>?_,fun x hx=>?_,fun x hx=>?_⟩
     ·have:=hJ.eq x hx
      rw[au]at this;rw[hg,qY tg hd Fx,List.count_append];omega
     ·rw[hg];have:=hJ.pos x;omega
     ·rw[hg]
      by_cases q:x=k
      ·subst q;rw[cA];have hp:=hJ.pos x;exact⟨fun _=>by omega,fun _=>by simp⟩
      ·have:(x == k)=false:=by simp[q]
       rw[this,Bool.or_false,fU (Ne.symm q)];have:=hJ.vis x hx;simpa using this
     ·simp only[Bool.or_eq_true,beq_iff_eq]at hx
      rcases hx with hx | hx
      ·exact hJ.live x hx
      ·subst hx;exact⟨d,hd⟩)
    rw[hv];exact ih P _ e2 (fun y hy=>hl y (List.mem_cons_of_mem _ hy)) nu
   ·have hv:vis K (m+1) c k=gU c k:=by
     unfold vis;rw[if_neg (by rw[hg,cA];omega)]
    rw[hv];refine ih P _ e (fun y hy=>hl y (List.mem_cons_of_mem _ hy)) ⟨by rw[jM];exact hJ.len,fun x hx=>?_,fun x=>?_,fun x hx=>?_,hJ.live⟩
    ·have:=hJ.eq x hx
     rw[au]at this;rw[hg];omega
    ·rw[hg];have:=hJ.pos x;omega
    ·rw[hg]
     have h1:=hJ.vis x hx;by_cases q:k=x
     ·subst q;rw[cA]
      have:=hJ.pos k
      constructor
      ·intro _;omega
      ·intro _;exact h1.2 (by omega)
     ·rw[fU q];simpa using h1
def aMO(K:Nat→List Nat)(ht:Nat→Nat)(rs:List Nat)(n:Nat):List Int:=rs.foldl (fun c r=>vis K (ht r) c r) (List.replicate n 0)
theorem uS(nodes:Nat→Option Nd)(n x:Nat):pZ nodes n (fun _=>false) x=0:=by
 unfold pZ;induction n with
 | zero=>rfl
 | succ n ih=>simp only[cQ];rw[ih];simp
theorem aLS(ht:Nat→Nat)(n:Nat):∃M,∀x,x<n→ht x≤M:=by
 induction n with
 | zero=>exact⟨0,fun x hx=>by omega⟩
 | succ n ih=>
  obtain⟨M,hM⟩:=ih;refine⟨max M (ht n),fun x hx=>?_⟩;by_cases e:x=n
  ·subst e;omega
  ·have:=hM x (by omega);omega
theorem aJI(h:IC f)(hh:Hts f.nodes ht)(hK:∀b d,f.nodes b=some d→K b=kids d):aMO K ht (f.roots.map fun r=>r.2.toNat) f.cur.length=f.cur:=by
 have go:∀(rs:List Nat) (c:List Int) (e:Nat→Bool),(∀r∈rs,∃d,f.nodes r=some d)→J f (rc f.roots) c e rs→∃e',J f (rc f.roots) (rs.foldl (fun c r=>vis K (ht r) c r) c) e' []:=by
  intro rs;induction rs with
  | nil=>intro c e _ hJ;exact⟨e,hJ⟩
  | cons r rs ih=>
   intro c e hr hJ;obtain⟨e1,oy⟩:=aMG h hh hK (ht r) [r] rs c e (fun k hk=>by
    simp only[List.mem_cons,List.not_mem_nil,or_false]at hk;subst hk;exact⟨hr k List.mem_cons_self,rfl⟩) hJ
   exact ih _ e1 (fun y hy=>hr y (List.mem_cons_of_mem _ hy)) oy
 obtain⟨e,hJ⟩:=go (f.roots.map fun r=>r.2.toNat) (List.replicate f.cur.length 0) (fun _=>false) (fun r hr=>by
  obtain⟨q,hq,rfl⟩:=List.mem_map.1 hr;exact h.root_live hq) ⟨by simp,fun x hx=>by
   rw[uS];have:(List.replicate f.cur.length (0:Int)).getD x 0=0:=by simp[gD,hx]
   rw[this];unfold rc;omega,fun x=>by
   by_cases hx:x<f.cur.length
   ·simp[gD,hx]
   ·simp[gD,hx],fun x hx=>by simp[gD,hx],fun x hx=>by simp at hx⟩
 show(f.roots.map fun r=>r.2.toNat).foldl _ _=_
 generalize (f.roots.map fun r=>r.2.toNat).foldl (fun c r=>vis K (ht r) c r) (List.replicate f.cur.length 0)=c at hJ ⊢;obtain⟨M,hM⟩:=aLS ht f.cur.length;have all:∀k x d,f.nodes x=some d→M-ht x=k→e x=true:=by
  intro k;induction k using Nat.strongRecOn with
  | ind k ih=>
   intro x d hd hk;have hx:=h.lt hd;refine(hJ.vis x hx).2 ?_;have h1:=hJ.eq x hx;simp only[List.count_nil]at h1;have h2:=h.names hx;have h3:=h.cu_pos hd;by_cases hr:0<rc f.roots x
   ·omega
   ·have CS:0<deg f.nodes f.cur.length x:=by omega
    obtain⟨y,hy,Ni⟩:=jP CS;cases hyd:f.nodes y with
    | none=>rw[hyd]at Ni;simp[bZ]at Ni
    | some dy=>
     rw[hyd]at Ni;have zh:x∈kids dy:=List.count_pos_iff.1 Ni;have NX:ht x+1=ht y:=by
      rcases hh y dy hyd with⟨q,_⟩ | ⟨_,q⟩
      ·simp[kids,q]at zh
      ·exact q x zh
     have Yd:=hM y hy;have WK:=ih (M-ht y) (by omega) y dy hyd rfl;have xz:=oF (g:=fun z=>if e z then(bZ (f.nodes z)).count x else 0) hy;simp only[WK,if_true]at xz;rw[hyd]at xz;have:0<pZ f.nodes f.cur.length e x:=lL Ni xz;omega
 have Kq:∀x,pZ f.nodes f.cur.length e x=deg f.nodes f.cur.length x:=fun x=>by
  unfold pZ deg;refine pS fun y hy=>?_;cases hyd:f.nodes y with
  | none=>simp[bZ]
  | some d=>rw[all _ y d hyd rfl];rfl
 refine List.ext_getElem? fun x=>?_;by_cases hx:x<f.cur.length
 ·have h1:=hJ.eq x hx
  simp only[List.count_nil]at h1;rw[Kq]at h1;have h2:=h.names hx;have h3:c.getD x 0=cu f x:=by omega
  unfold cu at h3;rw[gD,gD,gE (by rw[hJ.len];exact hx),gE hx]at h3;rw[gE (by rw[hJ.len];exact hx),gE hx];simpa using h3
 ·rw[List.getElem?_eq_none (by rw[hJ.len];omega),List.getElem?_eq_none (by omega)]
abbrev aQ:=Nat×Int×Option Nd
abbrev jr0:aQ:=(0,0,none)
def Tch(b:Nat)(J:List aQ):Prop:=∃r∈J,r.1=b
def fst(J:List aQ)(b:Nat):Option aQ:=J.find? fun r=>r.1 == b
theorem aGT{J:List aQ}:fst J b=none↔¬Tch b J:=by
 unfold fst Tch;rw[List.find?_eq_none];constructor
 ·rintro h ⟨r,hr,e⟩;exact h r hr (by simp[e])
 ·intro h r hr e;exact h ⟨r,hr,by simpa using e⟩
theorem aCQ(J K:List aQ)(b:Nat):fst (J++K) b=(fst J b).or (fst K b):=by
 unfold fst;rw[List.find?_append]
structure JI(f0 f:fZ)(J:List aQ):Prop where
 next:f.next=f0.next
 gen:f.gen=f0.gen
 com:f.com=f0.com
 table:f.table=f0.table
 len:f.cur.length=f0.cur.length
 lt:∀r∈J,r.1<f0.cur.length
 old:∀b r,fst J b=some r→r.2=(cu f0 b,f0.nodes b)
 new:∀b,fst J b=none→cu f b=cu f0 b∧f.nodes b=f0.nodes b
theorem JI.start(f:fZ):JI f f []:=⟨rfl,rfl,rfl,rfl,rfl,fun _ h=>(by simp at h),fun b r h=>(by simp[fst]at h),fun _ _=>⟨rfl,rfl⟩⟩
theorem JI.save{J:List aQ}(h:JI f0 f J)(hb:b<f.cur.length):JI f0 f (J++[(b,cu f b,f.nodes b)]):=by
 refine⟨h.next,h.gen,h.com,h.table,h.len,fun r hr=>?_,fun x r hr=>?_,fun x hx=>?_⟩
 ·rcases List.mem_append.1 hr with hr | hr
  ·exact h.lt r hr
  ·simp only[List.mem_singleton]at hr;subst hr;rw[←h.len];exact hb
 ·rw[aCQ]at hr
  cases e:fst J x with
  | some r'=>rw[e]at hr;simp only[Option.some_or,sJ]at hr;subst hr;exact h.old x _ e
  | none=>
   rw[e]at hr;simp only[Option.none_or,fst,List.find?_cons,List.find?_nil]at hr;split at hr
   ·rename_i hq
    simp only[beq_iff_eq]at hq;simp only[sJ]at hr;subst hr;subst hq;obtain⟨h1,h2⟩:=h.new b e;rw[h1,h2]
   ·cases hr
 ·rw[aCQ]at hx
  cases e:fst J x with
  | some r'=>rw[e]at hx;simp at hx
  | none=>exact h.new x e
theorem JI.chg{J:List aQ}(h:JI f0 f J)(hn:f'.next=f.next)(hg:f'.gen=f.gen)(hc:f'.com=f.com)(ht:f'.table=f.table)(hl:f'.cur.length=f.cur.length)
  (hx:∀x,¬Tch x J→cu f' x=cu f x∧f'.nodes x=f.nodes x):JI f0 f' J:=
 ⟨hn.trans h.next,hg.trans h.gen,hc.trans h.com,ht.trans h.table,hl.trans h.len,h.lt,h.old,fun b hb=>by
  obtain⟨h1,h2⟩:=h.new b hb;obtain⟨h3,h4⟩:=hx b (aGT.1 hb);exact⟨h3.trans h1,h4.trans h2⟩⟩
structure JS(k:Nat)(f:fZ)(J:List aQ)(f':fZ)(J':List aQ):Prop where
 ji:∀f0,JI f0 f J→JI f0 f' J'
 tch:∀b,Tch b J→Tch b J'
 len:J'.length≤J.length+k
theorem JS.refl(f:fZ)(J:List aQ):JS 0 f J f J:=⟨fun _ h=>h,fun _ h=>h,nR _⟩
theorem JS.trans{k l:Nat}{i:fZ}{J K L:List aQ}(a:JS k f J g K)(b:JS l g K i L):JS (k+l) f J i L:=
 ⟨fun f0 h=>b.ji f0 (a.ji f0 h),fun x h=>b.tch x (a.tch x h),by have:=a.len;have:=b.len;omega⟩
theorem JS.up{k l:Nat}{J K:List aQ}(a:JS k f J g K)(h:k≤l):JS l f J g K:=⟨a.ji,a.tch,by have:=a.len;omega⟩
theorem JS.save{J:List aQ}(hb:b<f.cur.length):JS 1 f J f (J++[(b,cu f b,f.nodes b)]):=
 ⟨fun f0 h=>h.save hb,fun x ⟨r,hr,e⟩=>⟨r,List.mem_append_left _ hr,e⟩,by simp⟩
theorem Tch.saved{J:List aQ}{c:Int}{d:Option Nd}:Tch b (J++[(b,c,d)]):=⟨_,List.mem_append_right _ (List.mem_singleton.2 rfl),rfl⟩
theorem JS.chg{J:List aQ}(hn:f'.next=f.next)(hg:f'.gen=f.gen)(hc:f'.com=f.com)(ht:f'.table=f.table)(hl:f'.cur.length=f.cur.length)
  (hx:∀x,¬Tch x J→cu f' x=cu f x∧f'.nodes x=f.nodes x):JS 0 f J f' J:=⟨fun f0 h=>h.chg hn hg hc ht hl hx,fun _ h=>h,nR _⟩
theorem JS.setN{J:List aQ}(d:Nd)(h:Tch b J):JS 0 f J (setN f b d) J:=
 JS.chg rfl rfl rfl rfl rfl fun x hx=>⟨rfl,aC _ _ fun e=>hx (e▸h)⟩
theorem jH(f:fZ){x:Nat}(v:Int)(h:x≠b):(f.cur.set b v).getD x 0=cu f x:=by
 unfold cu;rw[gD,gD,List.getElem?_set,if_neg (Ne.symm h)]
theorem JS.takeAt{J:List aQ}(d:Nd)(h:Tch b J):JS 0 f J (takeAt f b d) J:=
 JS.chg rfl rfl rfl rfl (by simp[Fo.takeAt]) fun x hx=>⟨jH f _ fun e=>hx (e▸h),aC _ _ fun e=>hx (e▸h)⟩
theorem JS.freeB{J:List aQ}(h:Tch b J):JS 0 f J (freeB f b) J:=
 JS.chg rfl rfl rfl rfl (by simp[Fo.freeB]) fun x hx=>⟨jH f _ fun e=>hx (e▸h),aC _ _ fun e=>hx (e▸h)⟩
def setC(f:fZ)(b:Nat)(v:Int):fZ:={f with cur:=f.cur.set b v}
theorem JS.setC{J:List aQ}(v:Int)(h:Tch b J):JS 0 f J (setC f b v) J:=
 JS.chg rfl rfl rfl rfl (by simp[Fo.setC]) fun x hx=>⟨jH f _ fun e=>hx (e▸h),rfl⟩
theorem JS.roots{J:List aQ}(r:List (Int×Int)):JS 0 f J {f with roots:=r} J:=JS.chg rfl rfl rfl rfl rfl fun x hx=>⟨rfl,rfl⟩
theorem JS.setL{J:List aQ}(L:Loc)(q:Nat)(h:∀b i,L=.ent b i→Tch b J):JS 0 f J (setL f L q) J:=by
 cases L with
 | inl t=>exact JS.roots _
 | inr bi=>obtain⟨b,i⟩:=bi;exact JS.setN _ (h b i rfl)
def aKV(f:fZ)(r:aQ):fZ:={f with cur:=f.cur.set r.1 r.2.1,nodes:=upd f.nodes r.1 r.2.2}
def dY(f:fZ)(J:List aQ):fZ:=J.foldr (fun r g=>aKV g r) f
theorem oO(f:fZ)(J:List aQ):(dY f J).next=f.next∧(dY f J).gen=f.gen∧(dY f J).com=f.com∧(dY f J).table=f.table∧(dY f J).roots=f.roots∧(dY f J).cur.length=f.cur.length:=by
 induction J with
 | nil=>exact⟨rfl,rfl,rfl,rfl,rfl,rfl⟩
 | cons r J ih=>obtain⟨h1,h2,h3,h4,h5,h6⟩:=ih;exact⟨h1,h2,h3,h4,h5,by show((dY f J).cur.set _ _).length=_;rw[List.length_set,h6]⟩
theorem aCH(f:fZ):∀(J:List aQ) (hl:∀r∈J,r.1<f.cur.length) (b:Nat),(∀r,fst J b=some r→cu (dY f J) b=r.2.1∧(dY f J).nodes b=r.2.2)∧(fst J b=none→cu (dY f J) b=cu f b∧(dY f J).nodes b=f.nodes b)
 | [],_,b=>⟨fun r h=>by simp[fst]at h,fun _=>⟨rfl,rfl⟩⟩
 | r :: J,hl,b=>by
  obtain⟨i1,i2⟩:=aCH f J (fun x hx=>hl x (List.mem_cons_of_mem _ hx)) b;have ai:r.1 <(dY f J).cur.length:=by rw[(oO f J).2.2.2.2.2];exact hl r List.mem_cons_self
  have ot:cu (dY f (r :: J)) b=if r.1=b then r.2.1 else cu (dY f J) b:=fE (dY f J) r.1 b r.2.1 ai;have F8:(dY f (r :: J)).nodes b=if b=r.1 then r.2.2 else(dY f J).nodes b:=rfl;have WO:fst (r :: J) b=if r.1=b then some r else fst J b:=by
   unfold fst;rw[List.find?_cons];by_cases e:r.1=b
   ·simp[e]
   ·have:(r.1 == b)=false:=by simpa using e
    simp[this,e]
  rw[ot,F8,WO];by_cases e:r.1=b
  ·rw[if_pos e,if_pos e,if_pos e.symm]
   exact⟨fun x hx=>by cases hx;exact⟨rfl,rfl⟩,fun h=>by cases h⟩
  ·rw[if_neg e,if_neg e,if_neg (fun q=>e q.symm)]
   exact⟨i1,i2⟩
theorem JI.restored{J:List aQ}(h:JI f0 f J):{dY f J with roots:=f0.roots}=f0:=by
 obtain⟨r1,r2,r3,r4,r5,r6⟩:=oO f J;have jt:=aCH f J (fun r hr=>by rw[h.len];exact h.lt r hr);have key:∀b,cu (dY f J) b=cu f0 b∧(dY f J).nodes b=f0.nodes b:=fun b=>by
  cases e:fst J b with
  | some r=>
   obtain⟨h1,h2⟩:=(jt b).1 r e;have:=h.old b r e;rw[this]at h1 h2;exact⟨h1,h2⟩
  | none=>
   obtain⟨h1,h2⟩:=(jt b).2 e;obtain⟨h3,h4⟩:=h.new b e;exact⟨h1.trans h3,h2.trans h4⟩
 have Cv:(dY f J).cur=f0.cur:=by
  refine List.ext_getElem? fun i=>?_;have hl:(dY f J).cur.length=f0.cur.length:=r6.trans h.len;have:=(key i).1;unfold cu at this;rw[gD,gD]at this;by_cases hi:i<f0.cur.length
  ·rw[gE (by omega),gE hi]at this ⊢
   simpa using this
  ·rw[List.getElem?_eq_none (by omega),List.getElem?_eq_none (by omega)]
 have KA:(dY f J).nodes=f0.nodes:=funext fun b=>(key b).2;have e1:=r1.trans h.next;have e2:=r2.trans h.gen;have e3:=r3.trans h.com;have e4:=r4.trans h.table;cases f0;simp only at *;simp only[Cv,KA,e1,e2,e3,e4]
theorem few:∀(n:Nat) (l:List Nat),l.Nodup→(∀x∈l,x<n)→l.length≤n
 | 0,l,_,h=>by
  cases l with
  | nil=>simp
  | cons a l=>exact absurd (h a List.mem_cons_self) (by omega)
 | n+1,l,hd,h=>by
  have h1:=few n (l.filter fun x=>x != n) (hd.filter _) (fun x hx=>by
   have:=List.mem_filter.1 hx
   have h2:=h x this.1;have h3:x≠n:=by simpa using this.2
   omega)
  have h2:l.length≤(l.filter fun x=>x != n).length+1:=by
   have h3:∀m:List Nat,m.Nodup→m.length≤(m.filter fun x=>x != n).length+1:=fun m hm=>by
    induction m with
    | nil=>simp
    | cons a m ih=>
     have g9:=List.nodup_cons.1 hm;have:=ih g9.2;by_cases e:a=n
     ·subst e
      have e2:m.filter (fun x=>x != a)=m:=List.filter_eq_self.2 fun x hx=>by simp;exact fun q=>g9.1 (q▸hx)
      simp[e2]
     ·have:(a != n)=true:=by simpa using e
      simp only[List.filter_cons,this,if_true,List.length_cons];omega
   exact h3 l hd
  omega
theorem aAV(w:Wk f t H)(p:aN f t H P b (h+1) lo hi)(h3:P≠[]→3≤sz f.nodes b)(hr:cD f t H)(hm:Mem f.nodes (h+1) b key){g1:fZ}(ml:stepDel f b key=some (g1,c)):
  (∃es,g1.nodes b=some (2,es)∧es.length≠1∧delAt (h+1) f t b key=delAt h g1 t c key∧Wk g1 t H∧(∃P' lo' ak,aN g1 t H P' c h lo' ak)∧3≤sz g1.nodes c∧cD g1 t H∧Mem g1.nodes h c key) ∨
  (∃e,g1.nodes b=some (2,[e])∧ch e=c∧b=aB g1 t∧t<g1.roots.length∧IC g1∧delAt (h+1) f t b key=delAt h (fallF g1 t (aB g1 t) c) t c key∧∃H',Wk (fallF g1 t (aB g1 t) c) t H'∧aN (fallF g1 t (aB g1 t) c) t H' [] c h none none∧cD (fallF g1 t (aB g1 t) c) t H'∧Mem (fallF g1 t (aB g1 t) c).nodes h c key):=by
 have st:=w.stepDel p hr h3 hm ml;obtain⟨lo',ak,pc⟩:=st.path;have xt:delAt (h+1) f t b key=if(look g1 b).2.length=1 then delAt h (fallF g1 t (aB g1 t) (kd (look g1 b).2 0)) t c key else delAt h g1 t c key:=by
  conv=>lhs;unfold delAt
  rw[ml]
 rcases st.many with⟨es,n1,n2⟩ | ⟨hP,e,n1,n2⟩
 ·have ez:cD g1 t H:=by
   rcases st.rt hr with q | ⟨_,e,q,_⟩
   ·exact q
   ·rw[n1]at q;cases q;simp at n2
  refine .inl ⟨es,n1,by omega,?_,st.wk,⟨_,_,_,pc⟩,st.spare,ez,st.mem⟩;rw[xt,aE n1];exact if_neg (by simp only;omega)
 ·rw[aE n1]at xt
  rw[if_pos (show([e]:List E3).length=1 from rfl)]at xt;have ie:kd [e] 0=ch e:=rfl;rw[ie]at xt;subst hP;rcases st.up.top with⟨_,q,q'⟩ | ⟨q,_⟩
  ·subst q'
   have n1':=n1;rw[q]at n1;have ed:cu g1 (aB g1 t)=1:=by have:=(st.up.named st.wk.ic st.wk.tl b List.mem_cons_self).1;rw[q]at this;exact this
   have jg:cu g1 (ch e)=1:=by rw[n2];exact(pc.named st.wk.ic st.wk.tl c List.mem_cons_self).1
   obtain⟨v1,v2,v3,v4,v5,v6⟩:=st.wk.fall n1 ed jg;rw[n2]at v1 v2 v3 v4 v5 v6 xt;exact .inr ⟨e,n1',n2,q,st.wk.tl,st.wk.ic,xt,_,v1,v2,v4,v6 key st.mem⟩
  ·cases q
theorem aHL(nodes:Nat→Option Nd)(n:Nat):fG nodes n≤n:=by
 unfold fG;induction n with
 | zero=>exact nR _
 | succ n ih=>simp only[cQ];split<;>omega
structure UC(h:Nat)(f:fZ)(b:Nat):Prop where
 ex:∃(g:fZ) (S:Nat→Prop) (ht E:Nat→Nat),Ab f g S∧IP g ht∧(∀x,x<g.cur.length→df g x=((E x:Nat):Int))∧b<g.cur.length∧1≤E b∧ht b=h
theorem UC.live(u:UC h f b):∃d,f.nodes b=some d∧b<f.cur.length∧1≤cu f b∧kL f.cur.length d∧(h=0→kids d=[]):=by
 obtain⟨g,S,ht,E,ab,ip,hE,hb,CC,hh⟩:=u;obtain⟨d,hd,xk,lp,-⟩:=kI (h:=h) ab ip hE hb CC;refine⟨d,lp,by rw[ab.cur];exact hb,?_,by rw[ab.cur];exact ip.kb b d hd,fun h0=>?_⟩
 ·rw[nC ab]
  have h1:=hE b hb;unfold df at h1;omega
 ·refine List.eq_nil_iff_forall_not_mem.2 fun c hc=>?_
  rcases ip.ht b d hd with⟨q,_⟩ | ⟨_,q⟩
  ·simp[kids,q]at hc
  ·have:=q c hc;omega
theorem UC.next(u:UC (h+1) f b)(hd:f.nodes b=some d)(hc:¬0<cu f b-1):(∀pre x post,kids d=pre++x :: post→UC h (unL h pre (dec f b,1)).1 x)∧∀pre post,kids d=pre++post→1≤(unL h pre (dec f b,1)).2∧(unL h pre (dec f b,1)).2≤600:=by
 obtain⟨g,S,ht,E,ab,ip,hE,hb,CC,hh⟩:=u;obtain⟨d',gd,xk,lp,-⟩:=kI (h:=h+1) ab ip hE hb CC;rw[hd]at lp;cases lp;rw[nC ab b]at hc;obtain⟨e1,e2,e3,e4⟩:=lI ab ip hE hb CC gd hc;have ah:(freeB g b).cur.length=g.cur.length:=by simp[freeB]
 have Dh:∀x,x <(freeB g b).cur.length→df (freeB g b) x=(((E x-one b x)+(kids d).count x:Nat):Int):=fun x hx=>e3 x (by rw[ah]at hx;exact hx);have pd:∀c∈kids d,c <(freeB g b).cur.length∧ht c=h:=fun c bo=>⟨by rw[ah];exact(ip.kb b d gd).kid bo,by
  rcases ip.ht b d gd with⟨q,_⟩ | ⟨_,q⟩
  ·simp[kids,q]at bo
  ·have:=q c bo;omega⟩
 have key:∀pre post,kids d=pre++post→Un h (dec f b) (freeB g b) (fun x=>S x∨x=b) ht pre (fun x=>(E x-one b x)+(kids d).count x) (unL h pre (dec f b,1)) 1:=fun pre post e=>
  (aBY (fun a b c d e f=>vR a b c d e f) pre (E:=fun x=>(E x-one b x)+(kids d).count x) 1 e1 e2 Dh (fun c bo=>pd c (by rw[e];exact List.mem_append_left _ bo)) (fun x=>by rw[e,List.count_append];omega)).2
 refine⟨fun pre x post e=>?_,fun pre post e=>?_⟩
 ·obtain⟨g',a1,a2,a3,a4,a5,a6,-⟩:=key pre (x :: post) e
  obtain⟨k1,k2⟩:=pd x (by rw[e];simp);refine⟨g',_,ht,_,a1,a2,a3,by rw[a4];exact k1,?_,k2⟩;rw[e,List.count_append,List.count_cons_self];omega
 ·obtain⟨g',a1,a2,a3,a4,a5,a6,-⟩:=key pre post e
  have h1:=aHL (freeB g b).nodes (freeB g b).cur.length;have h2:fG g'.nodes (freeB g b).cur.length≤fG (freeB g b).nodes (freeB g b).cur.length:=by
   unfold fG;have:∀n,cQ n (fun x=>if(g'.nodes x).isSome then 1 else 0)≤cQ n (fun x=>if((freeB g b).nodes x).isSome then 1 else 0):=fun n=>by
    induction n with
    | zero=>exact nR _
    | succ n ih=>
     simp only[cQ];rcases a5 n with q | q
     ·rw[q];omega
     ·rw[q];simp only[Option.isSome_none];split<;>simp_all<;>omega
   exact this _
  have:=ip.n512
  rw[ah]at *;omega
structure UK(f g:fZ):Prop where
 len:g.cur.length=f.cur.length
 com:g.com=f.com
 cu:∀x,Fo.cu g x≤Fo.cu f x
 nodes:∀x,g.nodes x=f.nodes x∨g.nodes x=none
theorem UK.refl(f:fZ):UK f f:=⟨rfl,rfl,fun _=>Int.le_refl _,fun _=>.inl rfl⟩
theorem UK.trans{k:fZ}(a:UK f g)(b:UK g k):UK f k:=⟨b.len.trans a.len,b.com.trans a.com,fun x=>Int.le_trans (b.cu x) (a.cu x),fun x=>by
 rcases b.nodes x with q | q
 ·rw[q];exact a.nodes x
 ·exact .inr q⟩
theorem UK.dec(f:fZ)(b:Nat):UK f (dec f b):=⟨by simp[Fo.dec],rfl,fun x=>by
 show(f.cur.set b _).getD x 0≤f.cur.getD x 0
 rw[gD,gD,List.getElem?_set];split
 ·rename_i e;subst e
  split
  ·simp only[Option.getD_some];unfold Fo.cu;rw[gD];omega
  ·rename_i hn;rw[List.getElem?_eq_none (by omega)];simp
 ·exact Int.le_refl _,fun _=>.inl rfl⟩
theorem UK.delN(f:fZ)(b:Nat):UK f (delN f b):=⟨rfl,rfl,fun _=>Int.le_refl _,fun x=>by
 by_cases e:x=b
 ·exact .inr (by show upd _ _ _ _=_;rw[e,aD])
 ·exact .inl (aC _ _ e)⟩
theorem UK.unname:∀(h:Nat) (f:fZ) (b:Nat),UK f (Fo.unname h f b).1
 | 0,f,b=>by
  unfold Fo.unname;split
  ·exact UK.dec f b
  ·exact(UK.dec f b).trans (UK.delN _ b)
 | h+1,f,b=>by
  unfold Fo.unname;split
  ·exact UK.dec f b
  ·refine UK.trans ?_ (UK.delN _ b)
   have:∀(l:List Nat) (a:fZ×Int),UK a.1 (unL h l a).1:=fun l=>by
    induction l with
    | nil=>intro a;exact UK.refl _
    | cons k l ih=>intro a;rw[lH];exact(UK.unname h a.1 k).trans (ih ((Fo.unname h a.1 k).1,a.2+(Fo.unname h a.1 k).2))
   exact(UK.dec f b).trans (this _ (Fo.dec f b,1))
theorem UK.unL(h:Nat):∀(l:List Nat) (a:fZ×Int),UK a.1 (Fo.unL h l a).1
 | [],a=>UK.refl _
 | k :: l,a=>by rw[lH];exact(UK.unname h a.1 k).trans (UK.unL h l ((Fo.unname h a.1 k).1,a.2+(Fo.unname h a.1 k).2))
theorem aIN(h:Nat)(l:List Nat)(k:Nat)(a:fZ×Int):unL h (l++[k]) a=((unname h (unL h l a).1 k).1,(unL h l a).2+(unname h (unL h l a).1 k).2):=by
 unfold unL;rw[List.foldl_append];rfl
theorem aJN(h:Inv f)(ht:t<f.roots.length)(hk:Ok f.nodes H (aB f t) none none):UC H (fO f t) (aB f t):=by
 obtain⟨uu,hI⟩:=h.ic.ip;have jw:∀r∈delE f.roots t,r∈f.roots:=fun r hr=>nW hr;have L0:IP (fO f t) uu:=⟨hI.n8,hI.n512,hI.len,⟨hI.dom.dead,hI.dom.pos⟩,hI.two,fun r hr=>hI.rb r (jw r hr),hI.kb,hI.ht⟩;obtain⟨d,hd⟩:=h.ic.root_live (aO ht);have hb:aB f t<f.cur.length:=h.ic.lt (show f.nodes (aB f t)=some d from hd);have hE:∀x,x <(fO f t).cur.length→df (fO f t) x=(one (aB f t) x:Int):=fun x hx=>by
  have h0:=h.ic.D0 x hx;have hc:=fQ (f.roots.map fun r=>r.2.toNat) t x (by simpa using ht);have g1:(f.roots.map fun r=>r.2.toNat).getD t 0=aB f t:=by simp[aB,gD,ht]
  rw[g1]at hc;have e:rc (fO f t).roots x=(delE (f.roots.map fun r=>r.2.toNat) t).count x:=by
   unfold rc fO;congr 1;simp[delE,List.map_take,List.map_drop]
  unfold df at h0 ⊢;rw[e];show cu f x -((_+deg f.nodes f.cur.length x:Nat):Int)=_
  have:rc f.roots x=(f.roots.map fun r=>r.2.toNat).count x:=rfl
  omega
 exact⟨fO f t,fun _=>False,uu,one (aB f t),⟨rfl,rfl,fun _ _=>rfl,fun _ q=>q.elim,rfl,rfl,rfl,rfl⟩,L0,hE,hb,by rw[cA];exact nR _,yS hI.ht hk⟩
theorem zR(h:Inv f)(ht:t<f.roots.length)(hi:i<f.roots.length)(av:i≠t):f.roots.getD i (0,0)≠f.roots.getD t (0,0):=fun e=>by
 have e1:rid f i=rid f t:=by unfold rid;rw[e]
 rcases Nat.lt_or_gt_of_ne av with q | q
 ·have:=h.ids i t q ht;omega
 ·have:=h.ids t i q hi;omega
