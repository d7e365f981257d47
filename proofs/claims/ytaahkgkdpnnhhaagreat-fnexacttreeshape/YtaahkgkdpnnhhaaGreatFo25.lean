import Derived.Test.YtaahkgkdpnnhhaaGreatFo21
set_option linter.all false
namespace Go.Proofs.YtaahkgkdpnnhhaaGreat.Fo
def gY(c:List Int)(k:Nat):List Int:=c.set k (c.getD k 0+1)
def mB(K:Nat→List Nat):Nat→Nat→List Int→List Int
 | 0,_,c=>c
 | h+1,b,c=>(K b).foldl (fun c k=>if(gY c k).getD k 0=1 then mB K h k (gY c k)else gY c k) c
def vis(K:Nat→List Nat)(h:Nat)(c:List Int)(k:Nat):List Int:=if(gY c k).getD k 0=1 then mB K h k (gY c k)else gY c k
theorem tU(K:Nat→List Nat)(h b:Nat)(c:List Int):mB K (h+1) b c=(K b).foldl (vis K h) c:=rfl
theorem jM(c:List Int)(k:Nat):(gY c k).length=c.length:=by simp[gY]
theorem nL(c:List Int)(k x:Nat)(hk:k<c.length):(gY c k).getD x 0=c.getD x 0+(one k x:Int):=by
 unfold gY;rw[eM];by_cases e:k=x
 ·subst e;rw[if_pos ⟨rfl,hk⟩,cA];rfl
 ·rw[if_neg (fun q=>e q.1),fT e];simp
def qB(nodes:Nat→Option Nd)(n:Nat)(e:Nat→Bool)(x:Nat):Nat:=cR n fun y=>if e y then(bZ (nodes y)).count x else 0
theorem rE{nodes:Nat→Option Nd}{n k:Nat}{d:Nd}{e:Nat→Bool}(hk:k<n)(hd:nodes k=some d)(he:e k=false)(x:Nat):qB nodes n (fun y=>e y || y == k) x=qB nodes n e x+(kids d).count x:=by
 have:=lS (n:=n) (g:=fun y=>if e y then(bZ (nodes y)).count x else 0) (g':=fun y=>if(e y || y == k)=true then(bZ (nodes y)).count x else 0) hk (fun y hy=>by
  have:(y == k)=false:=by simp[hy]
  simp[this])
 have a:(if e k=true then(bZ (nodes k)).count x else 0)=0:=by rw[he];rfl
 have b:(if(e k || k == k)=true then(bZ (nodes k)).count x else 0)=(kids d).count x:=by rw[hd];simp[bZ]
 have t:qB nodes n (fun y=>e y || y == k) x+(if e k=true then(bZ (nodes k)).count x else 0)=qB nodes n e x+(if(e k || k == k)=true then(bZ (nodes k)).count x else 0):=this;rw[a,b]at t;exact t
structure J(f:fZ)(s:Nat→Nat)(c:List Int)(e:Nat→Bool)(P:List Nat):Prop where
 len:c.length=f.cur.length
 eq:∀x,x<f.cur.length→c.getD x 0+(P.count x:Int)=((s x+qB f.nodes f.cur.length e x:Nat):Int)
 pos:∀x,0≤c.getD x 0
 vis:∀x,x<f.cur.length→(e x=true↔1≤c.getD x 0)
 live:∀x,e x=true→∃d,f.nodes x=some d
theorem aLT{f:fZ}(h:IC f){ht:Nat→Nat}(hh:Hts f.nodes ht){K:Nat→List Nat}(hK:∀b d,f.nodes b=some d→K b=kids d){s:Nat→Nat}:
  ∀(m:Nat) (l P:List Nat) (c:List Int) (e:Nat→Bool),(∀k∈l,(∃d,f.nodes k=some d)∧ht k=m)→J f s c e (l++P)→∃e',J f s (l.foldl (vis K m) c) e' P:=by
 intro m;induction m with
 | zero=>
  intro l;induction l with
  | nil=>intro P c e hl hJ;exact⟨e,hJ⟩
  | cons k l ih=>
   intro P c e hl hJ;obtain⟨⟨d,hd⟩,gi⟩:=hl k List.mem_cons_self;have tq:=h.lt hd;have mw:k<c.length:=by rw[hJ.len];exact tq
   have pa:kids d=[]:=by
    refine List.eq_nil_iff_forall_not_mem.2 fun y hy=>?_;rcases hh k d hd with⟨q,_⟩ | ⟨_,q⟩
    ·simp[kids,q]at hy
    ·have:=q y hy;omega
   have hg:=fun x=>nL c k x mw;have au:∀x,((k :: l++P).count x:Nat)=(l++P).count x+one k x:=fun x=>by simp only[List.cons_append,List.count_cons,beq_iff_eq,one]
   rw[List.foldl_cons];refine ih P _ (if c.getD k 0=0 then(fun y=>e y || y == k)else e) (fun y hy=>hl y (List.mem_cons_of_mem _ hy)) ?_;have hv:vis K 0 c k=gY c k:=by unfold vis mB;split<;>rfl
   rw[hv];by_cases h0:c.getD k 0=0
   ·rw[if_pos h0]
    have Fw:e k=false:=by
     cases q:e k with
     | false=>rfl
     | true=>have:=(hJ.vis k tq).1 q;omega
    refine⟨by rw[jM];exact hJ.len,fun x hx=>?_,fun x=>?_,fun x hx=>?_,fun x hx=>?_⟩
    ·have:=hJ.eq x hx
     rw[au]at this;rw[hg,rE tq hd Fw,pa,List.count_nil];omega
    ·rw[hg];have:=hJ.pos x;omega
    ·rw[hg]
     by_cases q:x=k
     ·subst q;rw[cA];have hp:=hJ.pos x;exact⟨fun _=>by omega,fun _=>by simp⟩
     ·have:(x == k)=false:=by simp[q]
      rw[this,Bool.or_false,fT (Ne.symm q)];have:=hJ.vis x hx;simpa using this
    ·simp only[Bool.or_eq_true,beq_iff_eq]at hx
     rcases hx with hx | hx
     ·exact hJ.live x hx
     ·subst hx;exact⟨d,hd⟩
   ·rw[if_neg h0]
    refine⟨by rw[jM];exact hJ.len,fun x hx=>?_,fun x=>?_,fun x hx=>?_,hJ.live⟩
    ·have:=hJ.eq x hx
     rw[au]at this;rw[hg];omega
    ·rw[hg];have:=hJ.pos x;omega
    ·rw[hg]
     have h1:=hJ.vis x hx;by_cases q:k=x
     ·subst q;rw[cA]
      have:=hJ.pos k
      constructor
      ·intro _;omega
      ·intro _;exact h1.2 (by omega)
     ·rw[fT q];simpa using h1
 | succ m ihm=>
  intro l;induction l with
  | nil=>intro P c e hl hJ;exact⟨e,hJ⟩
  | cons k l ih=>
   intro P c e hl hJ;obtain⟨⟨d,hd⟩,gi⟩:=hl k List.mem_cons_self;have tq:=h.lt hd;have mw:k<c.length:=by rw[hJ.len];exact tq
   have hg:=fun x=>nL c k x mw;have au:∀x,((k :: l++P).count x:Nat)=(l++P).count x+one k x:=fun x=>by simp only[List.cons_append,List.count_cons,beq_iff_eq,one]
   rw[List.foldl_cons];by_cases h0:c.getD k 0=0
   ·have Fw:e k=false:=by
     cases q:e k with
     | false=>rfl
     | true=>have:=(hJ.vis k tq).1 q;omega
    have hv:vis K (m+1) c k=(kids d).foldl (vis K m) (gY c k):=by
     unfold vis;rw[if_pos (by rw[hg,cA,h0];rfl),tU,hK k d hd];rfl
    obtain⟨e2,ow⟩:=ihm (kids d) (l++P) (gY c k) (fun y=>e y || y == k) (fun y hy=>⟨h.kid_live hd hy,by
     rcases hh k d hd with⟨q,_⟩ | ⟨_,q⟩
     ·simp[kids,q]at hy
     ·have:=q y hy;omega⟩) (by
     refine⟨by rw[jM];exact hJ.len,fun x hx=>?_,fun x=>?_,fun x hx=>?_,fun x hx=>?_⟩
     ·have:=hJ.eq x hx
      rw[au]at this;rw[hg,rE tq hd Fw,List.count_append];omega
     ·rw[hg];have:=hJ.pos x;omega
     ·rw[hg]
      by_cases q:x=k
      ·subst q;rw[cA];have hp:=hJ.pos x;exact⟨fun _=>by omega,fun _=>by simp⟩
      ·have:(x == k)=false:=by simp[q]
       rw[this,Bool.or_false,fT (Ne.symm q)];have:=hJ.vis x hx;simpa using this
     ·simp only[Bool.or_eq_true,beq_iff_eq]at hx
      rcases hx with hx | hx
      ·exact hJ.live x hx
      ·subst hx;exact⟨d,hd⟩)
    rw[hv];exact ih P _ e2 (fun y hy=>hl y (List.mem_cons_of_mem _ hy)) ow
   ·have hv:vis K (m+1) c k=gY c k:=by
     unfold vis;rw[if_neg (by rw[hg,cA];omega)]
    rw[hv];refine ih P _ e (fun y hy=>hl y (List.mem_cons_of_mem _ hy)) ⟨by rw[jM];exact hJ.len,fun x hx=>?_,fun x=>?_,fun x hx=>?_,hJ.live⟩
    ·have:=hJ.eq x hx
     rw[au]at this;rw[hg];omega
    ·rw[hg];have:=hJ.pos x;omega
    ·rw[hg]
     have h1:=hJ.vis x hx;by_cases q:k=x
     ·subst q;rw[cA]
      have:=hJ.pos k
      constructor
      ·intro _;omega
      ·intro _;exact h1.2 (by omega)
     ·rw[fT q];simpa using h1
def aMB(K:Nat→List Nat)(ht:Nat→Nat)(rs:List Nat)(n:Nat):List Int:=rs.foldl (fun c r=>vis K (ht r) c r) (List.replicate n 0)
theorem uU(nodes:Nat→Option Nd)(n x:Nat):qB nodes n (fun _=>false) x=0:=by
 unfold qB;induction n with
 | zero=>rfl
 | succ n ih=>simp only[cR];rw[ih];simp
theorem aLH(ht:Nat→Nat)(n:Nat):∃M,∀x,x<n→ht x≤M:=by
 induction n with
 | zero=>exact⟨0,fun x hx=>by omega⟩
 | succ n ih=>
  obtain⟨M,hM⟩:=ih;refine⟨max M (ht n),fun x hx=>?_⟩;by_cases e:x=n
  ·subst e;omega
  ·have:=hM x (by omega);omega
theorem aIY{f:fZ}(h:IC f){ht:Nat→Nat}(hh:Hts f.nodes ht){K:Nat→List Nat}(hK:∀b d,f.nodes b=some d→K b=kids d):aMB K ht (f.roots.map fun r=>r.2.toNat) f.cur.length=f.cur:=by
 have go:∀(rs:List Nat) (c:List Int) (e:Nat→Bool),(∀r∈rs,∃d,f.nodes r=some d)→J f (rc f.roots) c e rs→∃e',J f (rc f.roots) (rs.foldl (fun c r=>vis K (ht r) c r) c) e' []:=by
  intro rs;induction rs with
  | nil=>intro c e _ hJ;exact⟨e,hJ⟩
  | cons r rs ih=>
   intro c e hr hJ;obtain⟨e1,ot⟩:=aLT h hh hK (ht r) [r] rs c e (fun k hk=>by
    simp only[List.mem_cons,List.not_mem_nil,or_false]at hk;subst hk;exact⟨hr k List.mem_cons_self,rfl⟩) hJ
   exact ih _ e1 (fun y hy=>hr y (List.mem_cons_of_mem _ hy)) ot
 obtain⟨e,hJ⟩:=go (f.roots.map fun r=>r.2.toNat) (List.replicate f.cur.length 0) (fun _=>false) (fun r hr=>by
  obtain⟨q,hq,rfl⟩:=List.mem_map.1 hr;exact h.root_live hq) ⟨by simp,fun x hx=>by
   rw[uU];have:(List.replicate f.cur.length (0:Int)).getD x 0=0:=by simp[gD,hx]
   rw[this];unfold rc;omega,fun x=>by
   by_cases hx:x<f.cur.length
   ·simp[gD,hx]
   ·simp[gD,hx],fun x hx=>by simp[gD,hx],fun x hx=>by simp at hx⟩
 show(f.roots.map fun r=>r.2.toNat).foldl _ _=_
 generalize (f.roots.map fun r=>r.2.toNat).foldl (fun c r=>vis K (ht r) c r) (List.replicate f.cur.length 0)=c at hJ ⊢;obtain⟨M,hM⟩:=aLH ht f.cur.length;have all:∀k x d,f.nodes x=some d→M-ht x=k→e x=true:=by
  intro k;induction k using Nat.strongRecOn with
  | ind k ih=>
   intro x d hd hk;have hx:=h.lt hd;refine(hJ.vis x hx).2 ?_;have h1:=hJ.eq x hx;simp only[List.count_nil]at h1;have h2:=h.names hx;have h3:=h.cu_pos hd;by_cases hr:0<rc f.roots x
   ·omega
   ·have CT:0<deg f.nodes f.cur.length x:=by omega
    obtain⟨y,hy,Nf⟩:=jO CT;cases hyd:f.nodes y with
    | none=>rw[hyd]at Nf;simp[bZ]at Nf
    | some dy=>
     rw[hyd]at Nf;have zc:x∈kids dy:=List.count_pos_iff.1 Nf;have NT:ht x+1=ht y:=by
      rcases hh y dy hyd with⟨q,_⟩ | ⟨_,q⟩
      ·simp[kids,q]at zc
      ·exact q x zc
     have Yc:=hM y hy;have WG:=ih (M-ht y) (by omega) y dy hyd rfl;have xr:=oI (g:=fun z=>if e z then(bZ (f.nodes z)).count x else 0) hy;simp only[WG,if_true]at xr;rw[hyd]at xr;have:0<qB f.nodes f.cur.length e x:=lL Nf xr;omega
 have Kk:∀x,qB f.nodes f.cur.length e x=deg f.nodes f.cur.length x:=fun x=>by
  unfold qB deg;refine pT fun y hy=>?_;cases hyd:f.nodes y with
  | none=>simp[bZ]
  | some d=>rw[all _ y d hyd rfl];rfl
 refine List.ext_getElem? fun x=>?_;by_cases hx:x<f.cur.length
 ·have h1:=hJ.eq x hx
  simp only[List.count_nil]at h1;rw[Kk]at h1;have h2:=h.names hx;have h3:c.getD x 0=cu f x:=by omega
  unfold cu at h3;rw[gD,gD,gE (by rw[hJ.len];exact hx),gE hx]at h3;rw[gE (by rw[hJ.len];exact hx),gE hx];simpa using h3
 ·rw[List.getElem?_eq_none (by rw[hJ.len];omega),List.getElem?_eq_none (by omega)]
abbrev aQ:=Nat×Int×Option Nd
abbrev jr0:aQ:=(0,0,none)
def Tch(b:Nat)(J:List aQ):Prop:=∃r∈J,r.1=b
def fst(J:List aQ)(b:Nat):Option aQ:=J.find? fun r=>r.1 == b
theorem aGL{J:List aQ}{b:Nat}:fst J b=none↔¬Tch b J:=by
 unfold fst Tch;rw[List.find?_eq_none];constructor
 ·rintro h ⟨r,hr,e⟩;exact h r hr (by simp[e])
 ·intro h r hr e;exact h ⟨r,hr,by simpa using e⟩
theorem aCL(J K:List aQ)(b:Nat):fst (J++K) b=(fst J b).or (fst K b):=by
 unfold fst;rw[List.find?_append]
structure JI(f0 f:fZ)(J:List aQ):Prop where
 next:f.next=f0.next
 gen:f.gen=f0.gen
 com:f.com=f0.com
 table:f.table=f0.table
 len:f.cur.length=f0.cur.length
 lt:∀r∈J,r.1<f0.cur.length
 old:∀b r,fst J b=some r→r.2=(cu f0 b,f0.nodes b)
 new:∀b,fst J b=none→cu f b=cu f0 b∧f.nodes b=f0.nodes b
theorem JI.start(f:fZ):JI f f []:=⟨rfl,rfl,rfl,rfl,rfl,fun _ h=>(by simp at h),fun b r h=>(by simp[fst]at h),fun _ _=>⟨rfl,rfl⟩⟩
theorem JI.save{f0 f:fZ}{J:List aQ}(h:JI f0 f J){b:Nat}(hb:b<f.cur.length):JI f0 f (J++[(b,cu f b,f.nodes b)]):=by
 refine⟨h.next,h.gen,h.com,h.table,h.len,fun r hr=>?_,fun x r hr=>?_,fun x hx=>?_⟩
 ·rcases List.mem_append.1 hr with hr | hr
  ·exact h.lt r hr
  ·simp only[List.mem_singleton]at hr;subst hr;rw[←h.len];exact hb
 ·rw[aCL]at hr
  cases e:fst J x with
  | some r'=>rw[e]at hr;simp only[Option.some_or,sJ]at hr;subst hr;exact h.old x _ e
  | none=>
   rw[e]at hr;simp only[Option.none_or,fst,List.find?_cons,List.find?_nil]at hr;split at hr
   ·rename_i hq
    simp only[beq_iff_eq]at hq;simp only[sJ]at hr;subst hr;subst hq;obtain⟨h1,h2⟩:=h.new b e;rw[h1,h2]
   ·cases hr
 ·rw[aCL]at hx
  cases e:fst J x with
  | some r'=>rw[e]at hx;simp at hx
  | none=>exact h.new x e
theorem JI.chg{f0 f f':fZ}{J:List aQ}(h:JI f0 f J)(hn:f'.next=f.next)(hg:f'.gen=f.gen)(hc:f'.com=f.com)(ht:f'.table=f.table)(hl:f'.cur.length=f.cur.length)
  (hx:∀x,¬Tch x J→cu f' x=cu f x∧f'.nodes x=f.nodes x):JI f0 f' J:=
 ⟨hn.trans h.next,hg.trans h.gen,hc.trans h.com,ht.trans h.table,hl.trans h.len,h.lt,h.old,fun b hb=>by
  obtain⟨h1,h2⟩:=h.new b hb;obtain⟨h3,h4⟩:=hx b (aGL.1 hb);exact⟨h3.trans h1,h4.trans h2⟩⟩
structure JS(k:Nat)(f:fZ)(J:List aQ)(f':fZ)(J':List aQ):Prop where
 ji:∀f0,JI f0 f J→JI f0 f' J'
 tch:∀b,Tch b J→Tch b J'
 len:J'.length≤J.length+k
theorem JS.refl(f:fZ)(J:List aQ):JS 0 f J f J:=⟨fun _ h=>h,fun _ h=>h,nR _⟩
theorem JS.trans{k l:Nat}{f g i:fZ}{J K L:List aQ}(a:JS k f J g K)(b:JS l g K i L):JS (k+l) f J i L:=
 ⟨fun f0 h=>b.ji f0 (a.ji f0 h),fun x h=>b.tch x (a.tch x h),by have:=a.len;have:=b.len;omega⟩
theorem JS.up{k l:Nat}{f g:fZ}{J K:List aQ}(a:JS k f J g K)(h:k≤l):JS l f J g K:=⟨a.ji,a.tch,by have:=a.len;omega⟩
theorem JS.save{f:fZ}{J:List aQ}{b:Nat}(hb:b<f.cur.length):JS 1 f J f (J++[(b,cu f b,f.nodes b)]):=
 ⟨fun f0 h=>h.save hb,fun x ⟨r,hr,e⟩=>⟨r,List.mem_append_left _ hr,e⟩,by simp⟩
theorem Tch.saved{J:List aQ}{b:Nat}{c:Int}{d:Option Nd}:Tch b (J++[(b,c,d)]):=⟨_,List.mem_append_right _ (List.mem_singleton.2 rfl),rfl⟩
theorem JS.chg{f f':fZ}{J:List aQ}(hn:f'.next=f.next)(hg:f'.gen=f.gen)(hc:f'.com=f.com)(ht:f'.table=f.table)(hl:f'.cur.length=f.cur.length)
  (hx:∀x,¬Tch x J→cu f' x=cu f x∧f'.nodes x=f.nodes x):JS 0 f J f' J:=⟨fun f0 h=>h.chg hn hg hc ht hl hx,fun _ h=>h,nR _⟩
theorem JS.setN{f:fZ}{J:List aQ}{b:Nat}(d:Nd)(h:Tch b J):JS 0 f J (setN f b d) J:=
 JS.chg rfl rfl rfl rfl rfl fun x hx=>⟨rfl,aC _ _ fun e=>hx (e▸h)⟩
theorem jI(f:fZ){b x:Nat}(v:Int)(h:x≠b):(f.cur.set b v).getD x 0=cu f x:=by
 unfold cu;rw[gD,gD,List.getElem?_set,if_neg (Ne.symm h)]
theorem JS.takeAt{f:fZ}{J:List aQ}{b:Nat}(d:Nd)(h:Tch b J):JS 0 f J (takeAt f b d) J:=
 JS.chg rfl rfl rfl rfl (by simp[Fo.takeAt]) fun x hx=>⟨jI f _ fun e=>hx (e▸h),aC _ _ fun e=>hx (e▸h)⟩
theorem JS.freeB{f:fZ}{J:List aQ}{b:Nat}(h:Tch b J):JS 0 f J (freeB f b) J:=
 JS.chg rfl rfl rfl rfl (by simp[Fo.freeB]) fun x hx=>⟨jI f _ fun e=>hx (e▸h),aC _ _ fun e=>hx (e▸h)⟩
def setC(f:fZ)(b:Nat)(v:Int):fZ:={f with cur:=f.cur.set b v}
theorem JS.setC{f:fZ}{J:List aQ}{b:Nat}(v:Int)(h:Tch b J):JS 0 f J (setC f b v) J:=
 JS.chg rfl rfl rfl rfl (by simp[Fo.setC]) fun x hx=>⟨jI f _ fun e=>hx (e▸h),rfl⟩
theorem JS.roots{f:fZ}{J:List aQ}(r:List (Int×Int)):JS 0 f J {f with roots:=r} J:=JS.chg rfl rfl rfl rfl rfl fun x hx=>⟨rfl,rfl⟩
theorem JS.setL{f:fZ}{J:List aQ}(L:Loc)(q:Nat)(h:∀b i,L=.ent b i→Tch b J):JS 0 f J (setL f L q) J:=by
 cases L with
 | inl t=>exact JS.roots _
 | inr bi=>obtain⟨b,i⟩:=bi;exact JS.setN _ (h b i rfl)
def aKI(f:fZ)(r:aQ):fZ:={f with cur:=f.cur.set r.1 r.2.1,nodes:=upd f.nodes r.1 r.2.2}
def eC(f:fZ)(J:List aQ):fZ:=J.foldr (fun r g=>aKI g r) f
theorem oQ(f:fZ)(J:List aQ):(eC f J).next=f.next∧(eC f J).gen=f.gen∧(eC f J).com=f.com∧(eC f J).table=f.table∧(eC f J).roots=f.roots∧(eC f J).cur.length=f.cur.length:=by
 induction J with
 | nil=>exact⟨rfl,rfl,rfl,rfl,rfl,rfl⟩
 | cons r J ih=>obtain⟨h1,h2,h3,h4,h5,h6⟩:=ih;exact⟨h1,h2,h3,h4,h5,by show((eC f J).cur.set _ _).length=_;rw[List.length_set,h6]⟩
theorem aCC(f:fZ):∀(J:List aQ) (hl:∀r∈J,r.1<f.cur.length) (b:Nat),(∀r,fst J b=some r→cu (eC f J) b=r.2.1∧(eC f J).nodes b=r.2.2)∧(fst J b=none→cu (eC f J) b=cu f b∧(eC f J).nodes b=f.nodes b)
 | [],_,b=>⟨fun r h=>by simp[fst]at h,fun _=>⟨rfl,rfl⟩⟩
 | r :: J,hl,b=>by
  obtain⟨i1,i2⟩:=aCC f J (fun x hx=>hl x (List.mem_cons_of_mem _ hx)) b;have ai:r.1 <(eC f J).cur.length:=by rw[(oQ f J).2.2.2.2.2];exact hl r List.mem_cons_self
  have nk:cu (eC f (r :: J)) b=if r.1=b then r.2.1 else cu (eC f J) b:=fC (eC f J) r.1 b r.2.1 ai;have F8:(eC f (r :: J)).nodes b=if b=r.1 then r.2.2 else(eC f J).nodes b:=rfl;have WK:fst (r :: J) b=if r.1=b then some r else fst J b:=by
   unfold fst;rw[List.find?_cons];by_cases e:r.1=b
   ·simp[e]
   ·have:(r.1 == b)=false:=by simpa using e
    simp[this,e]
  rw[nk,F8,WK];by_cases e:r.1=b
  ·rw[if_pos e,if_pos e,if_pos e.symm]
   exact⟨fun x hx=>by cases hx;exact⟨rfl,rfl⟩,fun h=>by cases h⟩
  ·rw[if_neg e,if_neg e,if_neg (fun q=>e q.symm)]
   exact⟨i1,i2⟩
theorem JI.restored{f0 f:fZ}{J:List aQ}(h:JI f0 f J):{eC f J with roots:=f0.roots}=f0:=by
 obtain⟨r1,r2,r3,r4,r5,r6⟩:=oQ f J;have jw:=aCC f J (fun r hr=>by rw[h.len];exact h.lt r hr);have key:∀b,cu (eC f J) b=cu f0 b∧(eC f J).nodes b=f0.nodes b:=fun b=>by
  cases e:fst J b with
  | some r=>
   obtain⟨h1,h2⟩:=(jw b).1 r e;have:=h.old b r e;rw[this]at h1 h2;exact⟨h1,h2⟩
  | none=>
   obtain⟨h1,h2⟩:=(jw b).2 e;obtain⟨h3,h4⟩:=h.new b e;exact⟨h1.trans h3,h2.trans h4⟩
 have Cw:(eC f J).cur=f0.cur:=by
  refine List.ext_getElem? fun i=>?_;have hl:(eC f J).cur.length=f0.cur.length:=r6.trans h.len;have:=(key i).1;unfold cu at this;rw[gD,gD]at this;by_cases hi:i<f0.cur.length
  ·rw[gE (by omega),gE hi]at this ⊢
   simpa using this
  ·rw[List.getElem?_eq_none (by omega),List.getElem?_eq_none (by omega)]
 have J9:(eC f J).nodes=f0.nodes:=funext fun b=>(key b).2;have e1:=r1.trans h.next;have e2:=r2.trans h.gen;have e3:=r3.trans h.com;have e4:=r4.trans h.table;cases f0;simp only at *;simp only[Cw,J9,e1,e2,e3,e4]
theorem few:∀(n:Nat) (l:List Nat),l.Nodup→(∀x∈l,x<n)→l.length≤n
 | 0,l,_,h=>by
  cases l with
  | nil=>simp
  | cons a l=>exact absurd (h a List.mem_cons_self) (by omega)
 | n+1,l,hd,h=>by
  have h1:=few n (l.filter fun x=>x != n) (hd.filter _) (fun x hx=>by
   have:=List.mem_filter.1 hx
   have h2:=h x this.1;have h3:x≠n:=by simpa using this.2
   omega)
  have h2:l.length≤(l.filter fun x=>x != n).length+1:=by
   have h3:∀m:List Nat,m.Nodup→m.length≤(m.filter fun x=>x != n).length+1:=fun m hm=>by
    induction m with
    | nil=>simp
    | cons a m ih=>
     have gy:=List.nodup_cons.1 hm;have:=ih gy.2;by_cases e:a=n
     ·subst e
      have e2:m.filter (fun x=>x != a)=m:=List.filter_eq_self.2 fun x hx=>by simp;exact fun q=>gy.1 (q▸hx)
      simp[e2]
     ·have:(a != n)=true:=by simpa using e
      simp only[List.filter_cons,this,if_true,List.length_cons];omega
   exact h3 l hd
  omega
theorem aAO{f:fZ}{t H h:Nat}{key:ByteArray}(w:Wk f t H){P:List Nat}{b:Nat}{lo hi:OB}(p:aN f t H P b (h+1) lo hi)(h3:P≠[]→3≤sz f.nodes b)(hr:cD f t H)(hm:Mem f.nodes (h+1) b key){g1:fZ}{c:Nat}(mm:stepDel f b key=some (g1,c)):
  (∃es,g1.nodes b=some (2,es)∧es.length≠1∧delAt (h+1) f t b key=delAt h g1 t c key∧Wk g1 t H∧(∃P' lo' am,aN g1 t H P' c h lo' am)∧3≤sz g1.nodes c∧cD g1 t H∧Mem g1.nodes h c key) ∨
  (∃e,g1.nodes b=some (2,[e])∧ch e=c∧b=aB g1 t∧t<g1.roots.length∧IC g1∧delAt (h+1) f t b key=delAt h (fallF g1 t (aB g1 t) c) t c key∧∃H',Wk (fallF g1 t (aB g1 t) c) t H'∧aN (fallF g1 t (aB g1 t) c) t H' [] c h none none∧cD (fallF g1 t (aB g1 t) c) t H'∧Mem (fallF g1 t (aB g1 t) c).nodes h c key):=by
 have st:=w.stepDel p hr h3 hm mm;obtain⟨lo',am,pc⟩:=st.path;have xm:delAt (h+1) f t b key=if(look g1 b).2.length=1 then delAt h (fallF g1 t (aB g1 t) (kd (look g1 b).2 0)) t c key else delAt h g1 t c key:=by
  conv=>lhs;unfold delAt
  rw[mm]
 rcases st.many with⟨es,n1,n2⟩ | ⟨hP,e,n1,n2⟩
 ·have er:cD g1 t H:=by
   rcases st.rt hr with q | ⟨_,e,q,_⟩
   ·exact q
   ·rw[n1]at q;cases q;simp at n2
  refine .inl ⟨es,n1,by omega,?_,st.wk,⟨_,_,_,pc⟩,st.spare,er,st.mem⟩;rw[xm,aE n1];exact if_neg (by simp only;omega)
 ·rw[aE n1]at xm
  rw[if_pos (show([e]:List E3).length=1 from rfl)]at xm;have iw:kd [e] 0=ch e:=rfl;rw[iw]at xm;subst hP;rcases st.up.top with⟨_,q,q'⟩ | ⟨q,_⟩
  ·subst q'
   have n1':=n1;rw[q]at n1;have en:cu g1 (aB g1 t)=1:=by have:=(st.up.named st.wk.ic st.wk.tl b List.mem_cons_self).1;rw[q]at this;exact this
   have jg:cu g1 (ch e)=1:=by rw[n2];exact(pc.named st.wk.ic st.wk.tl c List.mem_cons_self).1
   obtain⟨v1,v2,v3,v4,v5,v6⟩:=st.wk.fall n1 en jg;rw[n2]at v1 v2 v3 v4 v5 v6 xm;exact .inr ⟨e,n1',n2,q,st.wk.tl,st.wk.ic,xm,_,v1,v2,v4,v6 key st.mem⟩
  ·cases q
theorem aHC(nodes:Nat→Option Nd)(n:Nat):fF nodes n≤n:=by
 unfold fF;induction n with
 | zero=>exact nR _
 | succ n ih=>simp only[cR];split<;>omega
structure UC(h:Nat)(f:fZ)(b:Nat):Prop where
 ex:∃(g:fZ) (S:Nat→Prop) (ht E:Nat→Nat),Ab f g S∧IP g ht∧(∀x,x<g.cur.length→df g x=((E x:Nat):Int))∧b<g.cur.length∧1≤E b∧ht b=h
theorem UC.live{h:Nat}{f:fZ}{b:Nat}(u:UC h f b):∃d,f.nodes b=some d∧b<f.cur.length∧1≤cu f b∧kJ f.cur.length d∧(h=0→kids d=[]):=by
 obtain⟨g,S,ht,E,ab,ip,hE,hb,CE,hh⟩:=u;obtain⟨d,hd,we,ll,-⟩:=kD (h:=h) ab ip hE hb CE;refine⟨d,ll,by rw[ab.cur];exact hb,?_,by rw[ab.cur];exact ip.kb b d hd,fun h0=>?_⟩
 ·rw[mZ ab]
  have h1:=hE b hb;unfold df at h1;omega
 ·refine List.eq_nil_iff_forall_not_mem.2 fun c hc=>?_
  rcases ip.ht b d hd with⟨q,_⟩ | ⟨_,q⟩
  ·simp[kids,q]at hc
  ·have:=q c hc;omega
theorem UC.next{h:Nat}{f:fZ}{b:Nat}(u:UC (h+1) f b){d:Nd}(hd:f.nodes b=some d)(hc:¬0<cu f b-1):(∀pre x post,kids d=pre++x :: post→UC h (unL h pre (dec f b,1)).1 x)∧∀pre post,kids d=pre++post→1≤(unL h pre (dec f b,1)).2∧(unL h pre (dec f b,1)).2≤600:=by
 obtain⟨g,S,ht,E,ab,ip,hE,hb,CE,hh⟩:=u;obtain⟨d',fy,we,ll,-⟩:=kD (h:=h+1) ab ip hE hb CE;rw[hd]at ll;cases ll;rw[mZ ab b]at hc;obtain⟨e1,e2,e3,e4⟩:=lF ab ip hE hb CE fy hc;have ah:(freeB g b).cur.length=g.cur.length:=by simp[freeB]
 have Df:∀x,x <(freeB g b).cur.length→df (freeB g b) x=(((E x-one b x)+(kids d).count x:Nat):Int):=fun x hx=>e3 x (by rw[ah]at hx;exact hx);have pa:∀c∈kids d,c <(freeB g b).cur.length∧ht c=h:=fun c bj=>⟨by rw[ah];exact(ip.kb b d fy).kid bj,by
  rcases ip.ht b d fy with⟨q,_⟩ | ⟨_,q⟩
  ·simp[kids,q]at bj
  ·have:=q c bj;omega⟩
 have key:∀pre post,kids d=pre++post→Un h (dec f b) (freeB g b) (fun x=>S x∨x=b) ht pre (fun x=>(E x-one b x)+(kids d).count x) (unL h pre (dec f b,1)) 1:=fun pre post e=>
  (aBU (fun a b c d e f=>vT a b c d e f) pre (E:=fun x=>(E x-one b x)+(kids d).count x) 1 e1 e2 Df (fun c bj=>pa c (by rw[e];exact List.mem_append_left _ bj)) (fun x=>by rw[e,List.count_append];omega)).2
 refine⟨fun pre x post e=>?_,fun pre post e=>?_⟩
 ·obtain⟨g',a1,a2,a3,a4,a5,a6,-⟩:=key pre (x :: post) e
  obtain⟨k1,k2⟩:=pa x (by rw[e];simp);refine⟨g',_,ht,_,a1,a2,a3,by rw[a4];exact k1,?_,k2⟩;rw[e,List.count_append,List.count_cons_self];omega
 ·obtain⟨g',a1,a2,a3,a4,a5,a6,-⟩:=key pre post e
  have h1:=aHC (freeB g b).nodes (freeB g b).cur.length;have h2:fF g'.nodes (freeB g b).cur.length≤fF (freeB g b).nodes (freeB g b).cur.length:=by
   unfold fF;have:∀n,cR n (fun x=>if(g'.nodes x).isSome then 1 else 0)≤cR n (fun x=>if((freeB g b).nodes x).isSome then 1 else 0):=fun n=>by
    induction n with
    | zero=>exact nR _
    | succ n ih=>
     simp only[cR];rcases a5 n with q | q
     ·rw[q];omega
     ·rw[q];simp only[Option.isSome_none];split<;>simp_all<;>omega
   exact this _
  have:=ip.n512
  rw[ah]at *;omega
structure UK(f g:fZ):Prop where
 len:g.cur.length=f.cur.length
 com:g.com=f.com
 cu:∀x,Fo.cu g x≤Fo.cu f x
 nodes:∀x,g.nodes x=f.nodes x∨g.nodes x=none
theorem UK.refl(f:fZ):UK f f:=⟨rfl,rfl,fun _=>Int.le_refl _,fun _=>.inl rfl⟩
theorem UK.trans{f g k:fZ}(a:UK f g)(b:UK g k):UK f k:=⟨b.len.trans a.len,b.com.trans a.com,fun x=>Int.le_trans (b.cu x) (a.cu x),fun x=>by
 rcases b.nodes x with q | q
 ·rw[q];exact a.nodes x
 ·exact .inr q⟩
theorem UK.dec(f:fZ)(b:Nat):UK f (dec f b):=⟨by simp[Fo.dec],rfl,fun x=>by
 show(f.cur.set b _).getD x 0≤f.cur.getD x 0
 rw[gD,gD,List.getElem?_set];split
 ·rename_i e;subst e
  split
  ·simp only[Option.getD_some];unfold Fo.cu;rw[gD];omega
  ·rename_i hn;rw[List.getElem?_eq_none (by omega)];simp
 ·exact Int.le_refl _,fun _=>.inl rfl⟩
theorem UK.delN(f:fZ)(b:Nat):UK f (delN f b):=⟨rfl,rfl,fun _=>Int.le_refl _,fun x=>by
 by_cases e:x=b
 ·exact .inr (by show upd _ _ _ _=_;rw[e,aD])
 ·exact .inl (aC _ _ e)⟩
theorem UK.unname:∀(h:Nat) (f:fZ) (b:Nat),UK f (Fo.unname h f b).1
 | 0,f,b=>by
  unfold Fo.unname;split
  ·exact UK.dec f b
  ·exact(UK.dec f b).trans (UK.delN _ b)
 | h+1,f,b=>by
  unfold Fo.unname;split
  ·exact UK.dec f b
  ·refine UK.trans ?_ (UK.delN _ b)
   have:∀(l:List Nat) (a:fZ×Int),UK a.1 (unL h l a).1:=fun l=>by
    induction l with
    | nil=>intro a;exact UK.refl _
    | cons k l ih=>intro a;rw[lE];exact(UK.unname h a.1 k).trans (ih ((Fo.unname h a.1 k).1,a.2+(Fo.unname h a.1 k).2))
   exact(UK.dec f b).trans (this _ (Fo.dec f b,1))
theorem UK.unL(h:Nat):∀(l:List Nat) (a:fZ×Int),UK a.1 (Fo.unL h l a).1
 | [],a=>UK.refl _
 | k :: l,a=>by rw[lE];exact(UK.unname h a.1 k).trans (UK.unL h l ((Fo.unname h a.1 k).1,a.2+(Fo.unname h a.1 k).2))
theorem aIC(h:Nat)(l:List Nat)(k:Nat)(a:fZ×Int):unL h (l++[k]) a=((unname h (unL h l a).1 k).1,(unL h l a).2+(unname h (unL h l a).1 k).2):=by
 unfold unL;rw[List.foldl_append];rfl
theorem aJD{f:fZ}(h:Inv f){t H:Nat}(ht:t<f.roots.length)(hk:Ok f.nodes H (aB f t) none none):UC H (fM f t) (aB f t):=by
 obtain⟨ur,hI⟩:=h.ic.ip;have jy:∀r∈delE f.roots t,r∈f.roots:=fun r hr=>nY hr;have Lr:IP (fM f t) ur:=⟨hI.n8,hI.n512,hI.len,⟨hI.dom.dead,hI.dom.pos⟩,hI.two,fun r hr=>hI.rb r (jy r hr),hI.kb,hI.ht⟩;obtain⟨d,hd⟩:=h.ic.root_live (aO ht);have hb:aB f t<f.cur.length:=h.ic.lt (show f.nodes (aB f t)=some d from hd);have hE:∀x,x <(fM f t).cur.length→df (fM f t) x=(one (aB f t) x:Int):=fun x hx=>by
  have h0:=h.ic.D0 x hx;have hc:=fP (f.roots.map fun r=>r.2.toNat) t x (by simpa using ht);have g1:(f.roots.map fun r=>r.2.toNat).getD t 0=aB f t:=by simp[aB,gD,ht]
  rw[g1]at hc;have e:rc (fM f t).roots x=(delE (f.roots.map fun r=>r.2.toNat) t).count x:=by
   unfold rc fM;congr 1;simp[delE,List.map_take,List.map_drop]
  unfold df at h0 ⊢;rw[e];show cu f x -((_+deg f.nodes f.cur.length x:Nat):Int)=_
  have:rc f.roots x=(f.roots.map fun r=>r.2.toNat).count x:=rfl
  omega
 exact⟨fM f t,fun _=>False,ur,one (aB f t),⟨rfl,rfl,fun _ _=>rfl,fun _ q=>q.elim,rfl,rfl,rfl,rfl⟩,Lr,hE,hb,by rw[cA];exact nR _,yM hI.ht hk⟩
theorem zL{f:fZ}(h:Inv f){t i:Nat}(ht:t<f.roots.length)(hi:i<f.roots.length)(av:i≠t):f.roots.getD i (0,0)≠f.roots.getD t (0,0):=fun e=>by
 have e1:rid f i=rid f t:=by unfold rid;rw[e]
 rcases Nat.lt_or_gt_of_ne av with q | q
 ·have:=h.ids i t q ht;omega
 ·have:=h.ids t i q hi;omega
theorem rB(g:Nat→Nat):∀n:Nat,∃M,∀x,x<n→g x≤M
 | 0=>⟨0,fun x h=>by omega⟩
 | n+1=>by
  obtain⟨M,h⟩:=rB g n;refine⟨M+g n,fun x hx=>?_⟩;by_cases e:x=n
  ·subst e;omega
  ·have:=h x (by omega);omega
theorem Inv.sound{f:fZ}(h:Inv f){b:Nat}{d:Nd}(hd:f.nodes b=some d):∃k lo hi,Ok f.nodes k b lo hi:=by
 obtain⟨ht,hh⟩:=h.ic.ht;obtain⟨M,hM⟩:=rB ht f.cur.length;have key:∀(m:Nat) (b:Nat) (d:Nd),M-ht b≤m→f.nodes b=some d→∃k lo hi,Ok f.nodes k b lo hi:=by
  intro m;induction m with
  | zero=>
   intro b d hm hd;have hb:=h.ic.lt hd;have hp:=h.ic.cu_pos hd;rw[h.ic.names hb]at hp;by_cases hr:0<rc f.roots b
   ·obtain⟨r,yf,pj⟩:=List.mem_map.1 (List.count_pos_iff.1 hr)
    obtain⟨t,AZ,Aa⟩:=List.getElem_of_mem yf;obtain⟨k,hk,_⟩:=h.ok t AZ;refine⟨k,none,none,?_⟩;have:aB f t=b:=by unfold aB;rw[gD,gE AZ,Aa];exact pj
    rw[←this];exact hk
   ·have CT:0<deg f.nodes f.cur.length b:=by omega
    obtain⟨x,hx,hc⟩:=jO CT;cases i5:f.nodes x with
    | none=>simp[i5,bZ]at hc
    | some dx=>
     rw[i5]at hc;have qa:b∈kids dx:=List.count_pos_iff.1 hc;rcases hh x dx i5 with⟨q,_⟩ | ⟨_,q⟩
     ·simp[kids,q]at qa
     ·have:=q b qa;have:=hM x hx;omega
  | succ m ih=>
   intro b d hm hd;have hb:=h.ic.lt hd;have hp:=h.ic.cu_pos hd;rw[h.ic.names hb]at hp;by_cases hr:0<rc f.roots b
   ·obtain⟨r,yf,pj⟩:=List.mem_map.1 (List.count_pos_iff.1 hr)
    obtain⟨t,AZ,Aa⟩:=List.getElem_of_mem yf;obtain⟨k,hk,_⟩:=h.ok t AZ;refine⟨k,none,none,?_⟩;have:aB f t=b:=by unfold aB;rw[gD,gE AZ,Aa];exact pj
    rw[←this];exact hk
   ·have CT:0<deg f.nodes f.cur.length b:=by omega
    obtain⟨x,hx,hc⟩:=jO CT;cases i5:f.nodes x with
    | none=>simp[i5,bZ]at hc
    | some dx=>
     rw[i5]at hc;have qa:b∈kids dx:=List.count_pos_iff.1 hc;rcases hh x dx i5 with⟨q,_⟩ | ⟨q2,q⟩
     ·simp[kids,q]at qa
     ·have h1:=q b qa
      have h2:=hM x hx;obtain⟨k,lo,hi,hk⟩:=ih x dx (by omega) i5;cases k with
      | zero=>obtain⟨es,he,_⟩:=hk;rw[i5]at he;cases he;simp at q2
      | succ k=>
       obtain⟨es,he,_,_,_,h5⟩:=hk;rw[i5]at he;cases he;rw[kids,if_pos rfl]at qa;obtain⟨e,EQ,vg⟩:=List.mem_map.1 qa;obtain⟨j,hj,Jm⟩:=cY EQ;have:=(h5 j hj).2;have iw:kd es j=b:=by unfold kd;rw[Jm];exact vg
       rw[iw]at this;exact⟨k,_,_,this⟩
 exact key _ b d (nR _) hd
theorem Inv.ent{f:fZ}(h:Inv f){b:Nat}{d:Nd}(hd:f.nodes b=some d):d.2.length≤5:=by
 obtain⟨k,lo,hi,hk⟩:=h.sound hd;obtain⟨d',h1,_,h2,_⟩:=hk.sz_pos;rw[hd]at h1;cases h1;exact h2
theorem oJ{g:Nat→Nat}{m:Nat}:∀{n:Nat},(∀x,x<n→g x≤m)→cR n g≤n*m
 | 0,_=>by simp[cR]
 | n+1,h=>by
  have h1:=oJ (n:=n) fun x hx=>h x (by omega);have h2:=h n (by omega);simp only[cR];rw[Nat.succ_mul];omega
theorem Inv.counts{f:fZ}(h:Inv f)(x:Nat):0≤cu f x∧cu f x≤2576:=by
 by_cases hx:x<f.cur.length
 ·rw[h.ic.names hx]
  have h1:rc f.roots x≤16:=by
   have:=List.count_le_length (a:=x) (l:=f.roots.map fun r=>r.2.toNat)
   have:=h.r16
   unfold rc;simp at *;omega
  have h2:deg f.nodes f.cur.length x≤f.cur.length*5:=oJ fun y hy=>by
   cases hny:f.nodes y with
   | none=>simp[bZ]
   | some d=>
    have:=h.ent hny
    have h3:=List.count_le_length (a:=x) (l:=kids d);have h4:(kids d).length≤d.2.length:=by unfold kids;split<;>simp
    simp only[bZ];omega
  have:=h.ic.n512
  omega
 ·rw[wI (by omega)];omega
theorem Ok.spine{nodes:Nat→Option Nd}:∀{h b:Nat} {lo hi:OB},Ok nodes h b lo hi→∀{ht:Nat→Nat},Hts nodes ht→∃l:List Nat,l.length=h+1∧(∀x∈l,ht x≤h∧∃d,nodes x=some d)∧l.Nodup
 | 0,b,lo,hi,k,ht,hh=>by
  obtain⟨d,hd,_⟩:=k.sz_pos;have:=yM hh k;exact⟨[b],rfl,fun x hx=>by simp only[List.mem_singleton]at hx;subst hx;exact⟨by omega,d,hd⟩,by simp⟩
 | h+1,b,lo,hi,k,ht,hh=>by
  have hb:=yM hh k;obtain⟨es,h1,h2,h3,h4,h5⟩:=k;have h0:0<es.length:=List.length_pos_iff.2 h3;obtain⟨l,l1,l2,l3⟩:=Ok.spine (h5 0 h0).2 hh;refine⟨b :: l,by simp[l1],fun x hx=>?_,List.nodup_cons.2 ⟨fun q=>?_,l3⟩⟩
  ·rcases List.mem_cons.1 hx with e | e
   ·subst e;exact⟨by omega,_,h1⟩
   ·exact⟨by have:=(l2 x e).1;omega,(l2 x e).2⟩
  ·have:=(l2 b q).1;omega
theorem Ok.high{f:fZ}(h:IC f){k b:Nat}{lo hi:OB}(hk:Ok f.nodes k b lo hi):k<f.cur.length:=by
 obtain⟨ht,hh⟩:=h.ht;obtain⟨l,l1,l2,l3⟩:=hk.spine hh;have:=few f.cur.length l l3 fun x hx=>by
  obtain⟨_,d,hd⟩:=l2 x hx;exact h.lt hd
 omega
def hgt(nodes:Nat→Option Nd):Nat→Nat→Nat
 | 0,_=>0
 | n+1,b=>match nodes b with
  | some (k,e :: _)=>if k=2 then hgt nodes n (ch e)+1 else 0
  | _=>0
theorem aGN{nodes:Nat→Option Nd}:∀{n h b:Nat} {lo hi:OB},Ok nodes h b lo hi→h≤n→hgt nodes n b=h
 | 0,h,b,lo,hi,k,hn=>by
  have:h=0:=by omega
  subst this;rfl
 | n+1,0,b,lo,hi,k,hn=>by
  obtain⟨es,h1,_⟩:=k;unfold hgt;rw[h1];cases es<;>simp
 | n+1,h+1,b,lo,hi,k,hn=>by
  obtain⟨es,h1,h2,h3,h4,h5⟩:=k;unfold hgt;rw[h1];cases es with
  | nil=>exact absurd rfl h3
  | cons e es=>
   have:=aGN (n:=n) (h5 0 (by simp)).2 (by omega)
   simp only[if_pos];have e2:kd (e :: es) 0=ch e:=rfl;rw[e2]at this;rw[this]
def hOf(f:fZ)(t:Nat):Nat:=hgt f.nodes 512 (aB f t)
theorem Inv.hOf{f:fZ}(h:Inv f){t:Nat}(ht:t<f.roots.length):Wk f t (hOf f t)∧cD f t (hOf f t)∧Fo.hOf f t<512:=by
 obtain⟨H,h1,h2⟩:=h.wk ht;have ai:=h1.ok.high h.ic;have:Fo.hOf f t=H:=aGN h1.ok (by have:=h.ic.n512;omega);rw[this];exact⟨h1,h2,by have:=h.ic.n512;omega⟩
def bF(c:List Int)(p:List Int):List Int:=p.foldl (fun l x=>l.set x.toNat 1) c
theorem iY(p:List Int):∀c:List Int,(bF c p).length=c.length:=by
 induction p with
 | nil=>intro c;rfl
 | cons x p ih=>intro c;show(bF (c.set x.toNat 1) p).length=_;rw[ih];simp
theorem zQ(p:List Int):∀(c:List Int) (i:Nat),(bF c p).getD i 0=c.getD i 0∨((bF c p).getD i 0=1∧(i:Int)∈p.map fun x=>(x.toNat:Int)):=by
 induction p with
 | nil=>intro c i;exact .inl rfl
 | cons x p ih=>
  intro c i;show(bF (c.set x.toNat 1) p).getD i 0=_∨((bF (c.set x.toNat 1) p).getD i 0=_∧_)
  rcases ih (c.set x.toNat 1) i with e | ⟨e,e'⟩
  ·rw[e,eM]
   by_cases q:x.toNat=i∧x.toNat<c.length
   ·rw[if_pos q];exact .inr ⟨rfl,by rw[List.map_cons,q.1];exact List.mem_cons_self⟩
   ·rw[if_neg q];exact .inl rfl
  ·exact .inr ⟨e,List.mem_cons_of_mem _ e'⟩
def dP(f:fZ)(p:List Int):fZ:={f with com:=bF f.cur p,table:=p,gen:=f.gen+1}
theorem Inv.settle{f:fZ}(h:Inv f){p:List Int}(hp:∀x∈p,2≤x)(hg:f.gen<1099511627776):Inv (dP f p):=by
 have xu:IC (dP f p):=⟨h.ic.n8,h.ic.n512,iY _ _,h.ic.D0,⟨h.ic.dom.dead,h.ic.dom.pos⟩,h.ic.two,h.ic.rb,h.ic.kb,h.ic.ht⟩;have Cv:∀b,co (dP f p) b=cu f b∨(co (dP f p) b=1∧(b:Int)∈p.map fun x=>(x.toNat:Int)):=fun b=>zQ p f.cur b;refine⟨xu,h.ne,h.r16,h.ok,h.ids,h.idb,h.nx,⟨by show 1≤f.gen+1;have:=h.gn;omega,by show f.gen+1≤_;omega⟩,fun b hb=>?_,fun b=>?_⟩
 ·rcases Cv b with e | ⟨e,e'⟩
  ·rw[e];exact(h.ic.dom.dead b).1 (h.ic.two b hb)
  ·obtain⟨x,hx,q⟩:=List.mem_map.1 e'
   have:=hp x hx;omega
 ·have:=h.counts b
  rcases Cv b with e | ⟨e,_⟩<;>rw[e]<;>omega
def aH(n:Nat):fZ:={roots:=[(0,2)],next:=1,gen:=1,nodes:=fun b=>if b=2 then some (1,[])else none,cur:=(List.replicate n 0).set 2 1,com:=((List.replicate n 0).set 2 1).set 3 1,table:=[3]}
theorem iK(n i:Nat):(List.replicate n (0:Int)).getD i 0=0:=by
 rw[gD,List.getElem?_replicate];split<;>rfl
theorem Inv.fresh{n:Nat}(h8:8≤n)(U8:n≤512):Inv (aH n):=by
 have nk:∀b,cu (aH n) b=if b=2 then 1 else 0:=fun b=>by
  show((List.replicate n (0:Int)).set 2 1).getD b 0=_
  rw[eM,iK];by_cases e:b=2
  ·subst e;rw[if_pos ⟨rfl,by simp;omega⟩,if_pos rfl]
  ·rw[if_neg (fun q=>e q.1.symm),if_neg e]
 have Cv:∀b,co (aH n) b=if b=2∨b=3 then 1 else 0:=fun b=>by
  show(((List.replicate n (0:Int)).set 2 1).set 3 1).getD b 0=_
  rw[eM,eM,iK];by_cases e:b=3
  ·subst e;rw[if_pos ⟨rfl,by simp;omega⟩,if_pos (.inr rfl)]
  ·rw[if_neg (fun q=>e q.1.symm)]
   by_cases e2:b=2
   ·subst e2;rw[if_pos ⟨rfl,by simp;omega⟩,if_pos (.inl rfl)]
   ·rw[if_neg (fun q=>e2 q.1.symm),if_neg (by omega)]
 have hl:(aH n).cur.length=n:=by simp[aH]
 have F8:∀b d,(aH n).nodes b=some d→b=2∧d=(1,[]):=fun b d hd=>by
  simp only[aH]at hd;split at hd
  ·rename_i e;cases hd;exact⟨e,rfl⟩
  ·cases hd
 have CT:∀x,deg (aH n).nodes n x=0:=fun x=>by
  have:deg (aH n).nodes n x≤n*0:=oJ fun y hy=>by
   cases hny:(aH n).nodes y with
   | none=>simp[bZ]
   | some d=>obtain⟨_,rfl⟩:=F8 y d hny;simp[bZ,kids]
  omega
 have xu:IC (aH n):=by
  refine⟨by omega,by omega,by simp[aH],fun x hx=>?_,⟨fun b=>?_,fun b=>?_⟩,fun b hb=>?_,fun r hr=>?_,fun b d hd=>?_,fun _=>0,fun b d hd=>?_⟩
  ·unfold df
   rw[hl]at *;rw[nk,CT];have:rc (aH n).roots x=if x=2 then 1 else 0:=by
    show([(2:Int).toNat]:List Nat).count x=_
    rw[List.count_singleton];by_cases e:x=2
    ·subst e;simp
    ·rw[if_neg e];simp;omega
   rw[this];by_cases e:x=2<;>simp[e]
  ·rw[nk]
   by_cases e:b=2
   ·subst e;simp[aH]
   ·simp[aH,e]
  ·rw[nk];split<;>omega
  ·simp[aH];omega
  ·simp only[aH,List.mem_singleton]at hr;subst hr;rw[hl];exact⟨by decide,by simp;omega⟩
  ·obtain⟨_,rfl⟩:=F8 b d hd;exact .inl rfl
  ·obtain⟨_,rfl⟩:=F8 b d hd;exact .inl ⟨rfl,rfl⟩
 refine⟨xu,by simp[aH],by simp[aH],fun t ht=>⟨0,?_,.inl rfl⟩,fun i j im hj=>?_,fun i hi=>?_,by simp[aH],by simp[aH],fun b hb=>?_,fun b=>?_⟩
 ·have:t=0:=by simp[aH]at ht;omega
  subst this;exact⟨[],rfl,⟨fun i j _ hj=>by simp at hj,fun i hi=>by simp at hi,fun i hi=>by simp at hi,by simp⟩,fun i hi=>by simp at hi⟩
 ·simp[aH]at hj;omega
 ·have:i=0:=by simp[aH]at hi;omega
  subst this;simp[aH,rid]
 ·rw[Cv,if_neg (by omega)]
 ·rw[Cv];split<;>omega
section
variable {f : fZ} {s : Nat → Nat} {c : List Int} {e : Nat → Bool} {k : Nat} {Q : List Nat}
theorem J.first{d:Nd}(h:IC f)(hJ:J f s c e (k :: Q))(hd:f.nodes k=some d)(h0:c.getD k 0=0):J f s (gY c k) (fun y=>e y || y == k) (kids d++Q):=by
 have tq:=h.lt hd;have mw:k<c.length:=by rw[hJ.len];exact tq
 have hg:=fun x=>nL c k x mw;have au:∀x,((k :: Q).count x:Nat)=Q.count x+one k x:=fun x=>by simp only[List.count_cons,beq_iff_eq,one]
 have Fw:e k=false:=by
  cases q:e k with
  | false=>rfl
  | true=>have:=(hJ.vis k tq).1 q;omega
 refine⟨by rw[jM];exact hJ.len,fun x hx=>?_,fun x=>?_,fun x hx=>?_,fun x hx=>?_⟩
 ·have:=hJ.eq x hx
  rw[au]at this;rw[hg,rE tq hd Fw,List.count_append];omega
 ·rw[hg];have:=hJ.pos x;omega
 ·rw[hg]
  by_cases q:x=k
  ·subst q;rw[cA];have hp:=hJ.pos x;exact⟨fun _=>by omega,fun _=>by simp⟩
  ·have:(x == k)=false:=by simp[q]
   rw[this,Bool.or_false,fT (Ne.symm q)];have:=hJ.vis x hx;simpa using this
 ·simp only[Bool.or_eq_true,beq_iff_eq]at hx
  rcases hx with hx | hx
  ·exact hJ.live x hx
  ·subst hx;exact⟨d,hd⟩
theorem J.more(hJ:J f s c e (k :: Q))(tq:k<f.cur.length)(h0:¬c.getD k 0=0):J f s (gY c k) e Q:=by
 have mw:k<c.length:=by rw[hJ.len];exact tq
 have hg:=fun x=>nL c k x mw;have au:∀x,((k :: Q).count x:Nat)=Q.count x+one k x:=fun x=>by simp only[List.count_cons,beq_iff_eq,one]
 refine⟨by rw[jM];exact hJ.len,fun x hx=>?_,fun x=>?_,fun x hx=>?_,hJ.live⟩
 ·have:=hJ.eq x hx
  rw[au]at this;rw[hg];omega
 ·rw[hg];have:=hJ.pos x;omega
 ·rw[hg]
  have h1:=hJ.vis x hx;by_cases q:k=x
  ·subst q;rw[cA]
   have:=hJ.pos k
   constructor
   ·intro _;omega
   ·intro _;exact h1.2 (by omega)
  ·rw[fT q];simpa using h1
theorem aIZ(nodes:Nat→Option Nd)(n:Nat)(e:Nat→Bool)(x:Nat):qB nodes n e x≤deg nodes n x:=by
 unfold qB deg;induction n with
 | zero=>exact nR _
 | succ n ih=>
  simp only[cR];have:(if e n=true then(bZ (nodes n)).count x else 0)≤(bZ (nodes n)).count x:=by split<;>omega
  omega
theorem J.le{P:List Nat}(h:IC f)(hJ:J f (rc f.roots) c e P)(x:Nat):0≤c.getD x 0∧c.getD x 0≤cu f x:=by
 refine⟨hJ.pos x,?_⟩;by_cases hx:x<f.cur.length
 ·have h1:=hJ.eq x hx
  have h2:=h.names hx;have h3:=aIZ f.nodes f.cur.length e x;omega
 ·rw[wI (by omega),gD,List.getElem?_eq_none (by rw[hJ.len];omega)];simp
theorem J.start(f:fZ):J f (rc f.roots) (List.replicate f.cur.length 0) (fun _=>false) (f.roots.map fun r=>r.2.toNat):=by
 refine⟨by simp,fun x hx=>?_,fun x=>?_,fun x hx=>?_,fun x hx=>by simp at hx⟩
 ·rw[uU,iK];unfold rc;omega
 ·rw[iK];omega
 ·rw[iK];simp
end
end Go.Proofs.YtaahkgkdpnnhhaaGreat.Fo
namespace Go.Proofs.YtaahkgkdpnnhhaaGreat.Fo
variable{key val:ByteArray}{es:List E3}{f g:fZ}
def nE(es:List E3)(key:ByteArray):Nat→Nat
 | 0=>0
 | k+1=>if kl key (ky es k)=true then nE es key k else k
theorem uY(hs:Srt es)(key:ByteArray):∀k,k≤es.length→nE es key k=min k (cLe es key)-1
 | 0,_=>by simp[nE]
 | k+1,h=>by
  have ih:=uY hs key k (by omega);have hi:=fY hs key (j:=k) (by omega);unfold nE;cases e:kl key (ky es k)with
  | true=>
   have:¬k<cLe es key:=fun q=>by rw[hi.2 q]at e;cases e
   rw[if_pos rfl,ih];omega
  | false=>
   have:=hi.1 e
   rw[if_neg (by simp)];omega
theorem rR(hs:Srt es)(key:ByteArray):nE es key es.length=bK es key:=by
 rw[uY hs key _ (nR _)];have:=wA es key;unfold bK;rw[show min es.length (cLe es key)=cLe es key by omega]
def qZ(es:List E3)(key:ByteArray):Nat→Nat
 | 0=>0
 | k+1=>if kl (ky es k) key=true then k+1 else qZ es key k
theorem xT(hs:Srt es)(key:ByteArray):∀k,k≤es.length→qZ es key k=min k (cLt es key)
 | 0,_=>by simp[qZ]
 | k+1,h=>by
  have ih:=xT hs key k (by omega);have hi:=gW hs key (j:=k) (by omega);unfold qZ;cases e:kl (ky es k) key with
  | true=>
   have:=hi.1 e
   rw[if_pos rfl];omega
  | false=>
   have:¬k<cLt es key:=fun q=>by rw[hi.2 q]at e;cases e
   rw[if_neg (by simp),ih];omega
theorem xS(hs:Srt es)(key:ByteArray):qZ es key es.length=cLt es key:=by
 rw[xT hs key _ (nR _)];have:=kM es key;omega
theorem aDU(h:∀j,j<es.length→ky es j≠key):fD es key=false:=by
 cases e:fD es key with
 | false=>rfl
 | true=>obtain⟨a,b⟩:=(dJ es key).1 e;exact absurd b (h _ a)
theorem aHK(hs:Srt es)(h0:∀i,i<es.length→(es.getD i e0).2.2=0){i:Nat}(hi:i<es.length)(e:ky es i=key):putE es key val=es.set i (key,val,0):=by
 obtain⟨h1,h2⟩:=jT hs hi e;unfold putE;rw[if_pos h1,h2,h0 i hi];have:(es.getD i e0).1=key:=e;rw[this]
theorem aJW(hs:Srt es)(h:∀j,j<es.length→ky es j≠key):putE es key val=insE es (qZ es key es.length) (key,val,0):=by
 unfold putE;rw[aDU h,xS hs];simp
def frB(f:fZ)(gh:Int)(b:Nat):Bool:=decide (2≤b) && (cu f b == 0) && (co f b == 0) && !((b:Int) == gh)
def mA(f:fZ)(gh:Int):Int:=match (List.range f.cur.length).find? (frB f gh)with
 | none=>-1
 | some b=>b
theorem zV{gh:Int}(hl:g.cur.length=f.cur.length)(hb:∀b,b<f.cur.length→frB f gh b=(decide (2≤b) && (cu g b == 0) && (co g b == 0))):mA f gh=if aF g=0 then -1 else(aF g:Int):=by
 unfold mA aF;rw[hl];have:(List.range f.cur.length).find? (frB f gh)=(List.range f.cur.length).find? (fun b=>decide (2≤b) && (cu g b == 0) && (co g b == 0)):=by
  have aux:∀l:List Nat,(∀b∈l,b<f.cur.length)→l.find? (frB f gh)=l.find? (fun b=>decide (2≤b) && (cu g b == 0) && (co g b == 0)):=by
   intro l;induction l with
   | nil=>intro _;rfl
   | cons a l ih=>
    intro h;rw[List.find?_cons,List.find?_cons,hb a (h a List.mem_cons_self),ih fun b q=>h b (List.mem_cons_of_mem _ q)]
  exact aux _ fun b h=>List.mem_range.1 h
 rw[this];cases e:(List.range f.cur.length).find? (fun b=>decide (2≤b) && (cu g b == 0) && (co g b == 0))with
 | none=>simp
 | some b=>
  have h2:=List.find?_some e;simp only[Bool.and_eq_true,decide_eq_true_eq]at h2;have:b≠0:=by omega
  simp[this]
theorem mQ(f:fZ):mA f (-1)=if aF f=0 then -1 else(aF f:Int):=zV rfl fun b _=>by
 unfold frB;have:(((b:Int)) == -1)=false:=by
  rw[beq_eq_false_iff_ne];omega
 rw[this];simp
theorem aBQ{q:Nat}{d:Nd}(h1:g.cur=f.cur)(h2:g.com=f.com)(hq:q<f.cur.length):mA f q=if aF (takeAt g q d)=0 then -1 else(aF (takeAt g q d):Int):=zV (by simp[takeAt,h1]) fun b hb=>by
 have e1:cu (takeAt g q d) b=if q=b then 1 else cu f b:=by
  show(g.cur.set q 1).getD b 0=_
  rw[h1,eM];by_cases e:q=b
  ·rw[if_pos ⟨e,hq⟩,if_pos e]
  ·rw[if_neg (fun x=>e x.1),if_neg e];rfl
 have e2:co (takeAt g q d) b=co f b:=by show g.com.getD b 0=_;rw[h2];rfl
 unfold frB;rw[e1,e2];by_cases e:q=b
 ·subst e;simp
 ·have:(((b:Int)) ==(q:Int))=false:=by rw[beq_eq_false_iff_ne];omega
  rw[this,if_neg e];simp
def iP(c:List Int):Nat→Nat
 | 0=>0
 | k+1=>iP c k+if 0<c.getD k 0 then 1 else 0
theorem sW(h:IC f):iP f.cur f.cur.length=fF f.nodes f.cur.length:=by
 have aux:∀k,k≤f.cur.length→iP f.cur k=cR k fun x=>if(f.nodes x).isSome then 1 else 0:=by
  intro k;induction k with
  | zero=>intro _;rfl
  | succ k ih=>
   intro hk;unfold iP cR;rw[ih (by omega)];have hp:=h.dom.pos k;have hd:=h.dom.dead k;cases e:f.nodes k with
   | none=>
    have:=hd.1 e
    unfold cu at this;rw[this];simp[e]
   | some d=>
    have:cu f k≠0:=fun q=>by have:=hd.2 q;rw[e]at this;cases this
    unfold cu at this hp;rw[if_pos (by omega)];simp[e]
 exact aux _ (nR _)
def dA(f:fZ):Nat→List Nat
 | 0=>[]
 | k+1=>dA f k++if 0<cu f k∧co f k=0 then [k]else []
def dX(f:fZ):Nat:=(dA f f.cur.length).length
theorem kO(f:fZ):∀k,(dA f k).length≤k
 | 0=>by simp[dA]
 | k+1=>by
  have:=kO f k
  unfold dA;rw[lP];split<;>simp<;>omega
theorem kP(f:fZ):∀k x,x∈dA f k↔x<k∧0<cu f x∧co f x=0
 | 0,x=>by simp[dA]
 | k+1,x=>by
  unfold dA;rw[List.mem_append,kP f k x];split
  ·rename_i h
   simp only[List.mem_singleton];constructor
   ·rintro(⟨a,b⟩ | rfl)
    ·exact⟨by omega,b⟩
    ·exact⟨by omega,h⟩
   ·rintro⟨a,b⟩
    by_cases e:x=k
    ·exact .inr e
    ·exact .inl ⟨by omega,b⟩
  ·rename_i h
   simp only[List.not_mem_nil,or_false];constructor
   ·rintro⟨a,b⟩;exact⟨by omega,b⟩
   ·rintro⟨a,b⟩
    refine⟨?_,b⟩;have:x≠k:=fun e=>h (e▸b);omega
theorem lW(f:fZ):∀k,(dA f k).Nodup
 | 0=>List.nodup_nil
 | k+1=>by
  unfold dA;refine List.nodup_append.2 ⟨lW f k,by split<;>simp,fun a ha b hb e=>?_⟩;have:=((kP f k a).1 ha).1;split at hb
  ·simp only[List.mem_singleton]at hb;omega
  ·cases hb
