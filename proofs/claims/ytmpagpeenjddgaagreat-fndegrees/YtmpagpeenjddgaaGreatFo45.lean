import Derived.Test.YtmpagpeenjddgaaGreatFo31
set_option linter.all false
namespace Go.Proofs.YtmpagpeenjddgaaGreat.Fo
variable{m:Int}{F c:List Int}{b dp h k n r:Nat}{ht:Nat->Nat}{f:fZ}
def sn(c:List Int):List Int:=c.map fun x=>if 1<=x then 1 else 0
theorem aKL(c:List Int):(sn c).length=c.length:=by simp[sn]
theorem xU(c:List Int)(r:Nat):(sn c).getD r 0=if 1<=c.getD r 0 then 1 else 0:=by
 unfold sn;rw[gD,gD,List.getElem?_map];cases c[r]?<;>rfl
theorem aON(a:0<=c.getD r 0):sn (eW c r)=(sn c).set r 1:=by
 unfold sn eW;rw[List.map_set,if_pos (by omega)]
theorem aOO(h1:1<=c.getD r 0):(sn c).set r 1=sn c:=by
 refine List.ext_getElem (by simp) fun i b a=>?_;rw[List.getElem_set];split
 ·rename_i e
  subst e;have:=xU c r;rw[if_pos h1,gD,gE a]at this;exact this.symm
 ·rfl
abbrev Sg:=List Int×List Int×List Int
def edS(s:Sg)(v:VW):Sg:=
 (s.1.set v.2.1.toNat (1-s.2.2.getD v.1.toNat 0),if v.2.1=0\/(s.1.set v.2.1.toNat (1-s.2.2.getD v.1.toNat 0)).getD (v.2.1.toNat-1) 0=1 then eW s.2.1 v.1.toNat else s.2.1,s.2.2.set v.1.toNat 1)
def Cl(f:fZ)(ht:Nat->Nat)(h:Nat)(c:List Int):Prop:=∀y d,f.n y=some d->ht y<=h->1<=c.getD y 0->∀k∈kids d,1<=c.getD k 0
structure Ed(f:fZ)(ht:Nat->Nat)(h dp:Nat)(F c F' c':List Int):Prop where
 fl:F'.length=F.length
 fj:∀j,j<dp->F'.getD j 0=F.getD j 0
 cl:c'.length=c.length
 mono:∀x,c.getD x 0<=c'.getD x 0
 high:∀x,h<ht x->c'.getD x 0=c.getD x 0
 et:Cl f ht h c'
theorem Ed.refl(dp:Nat)(F:List Int)(k:Cl f ht h c):Ed f ht h dp F c F c:=⟨rfl,fun _ _=>rfl,rfl,fun _=>Int.le_refl _,fun _ _=>rfl,k⟩
theorem Ed.trans{F' c' F2 c2:List Int}(a:Ed f ht h dp F c F' c')(b:Ed f ht h dp F' c' F2 c2):Ed f ht h dp F c F2 c2:=
 ⟨b.fl.trans a.fl,fun j d=>(b.fj j d).trans (a.fj j d),b.cl.trans a.cl,fun x=>Int.le_trans (a.mono x) (b.mono x),fun x e=>(b.high x e).trans (a.high x e),b.et⟩
def KF(f:fZ)(b:Nat):List Nat:=kids (look f b)
theorem aIQ(hr:r<c.length)(g:∀x,0<=c.getD x 0)(hF:dp<F.length)(h1:¬(dp=0\/F.getD (dp-1) 0=1)->1<=c.getD r 0)(hc:Cl f ht h c)(A:h<ht r):
  ∃F' c',edS (F,c,sn c) (dP f r dp)=(F',c',sn c')/\F'.getD dp 0=(if 1<=c.getD r 0 then 0 else 1)/\c'=(if dp=0\/F.getD (dp-1) 0=1 then eW c r else c)/\1<=c'.getD r 0/\F'.length=F.length/\(∀j,j<dp->F'.getD j 0=F.getD j 0)/\c'.length=c.length/\(∀x,c.getD x 0<=c'.getD x 0)/\(∀x,x≠r->c'.getD x 0=c.getD x 0)/\Cl f ht h c':=by
 have m:(dP f r dp).1.toNat=r:=rfl;have n:(dP f r dp).2.1.toNat=dp:=rfl;have o:((dP f r dp).2.1=0)=(dp=0):=by simp only[dP,eq_iff_iff];omega
 have p:(F.set dp (1 -(sn c).getD r 0)).getD (dp-1) 0=1\/dp=0↔F.getD (dp-1) 0=1\/dp=0:=by
  by_cases t:dp=0
  ·simp[t]
  ·rw[dI,if_neg (by omega)]
 have a:=fun x=>iR c r x hr;refine⟨F.set dp (1 -(sn c).getD r 0),if dp=0\/F.getD (dp-1) 0=1 then eW c r else c,?_,?_,rfl,?_,by simp,fun j B=>by rw[dI,if_neg (by omega)],?_,fun x=>?_,fun x w=>?_,?_⟩
 ·have s:(dp=0\/(F.set dp (1 -(sn c).getD r 0)).getD (dp-1) 0=1)=(dp=0\/F.getD (dp-1) 0=1):=propext (or_comm.trans (p.trans or_comm))
  unfold edS;simp only[m,n,o,s];congr 1;congr 1;split
  ·exact(aON (g r)).symm
  ·rename_i q;exact aOO (h1 q)
 ·rw[dI,if_pos ⟨rfl,hF⟩,xU]
  split<;>rfl
 ·split
  ·rw[a,bV];have:=g r;omega
  ·rename_i q;exact h1 q
 ·split
  ·exact gM _ _
  ·rfl
 ·split
  ·rw[a];omega
  ·exact Int.le_refl _
 ·split
  ·rw[a,fA (Ne.symm w)];simp
  ·rfl
 ·intro y d u z b k v
  have l:y≠r:=fun e=>by subst e;omega
  have i:1<=c.getD y 0:=by
   split at b
   ·rw[a,fA (Ne.symm l)]at b;simpa using b
   ·exact b
  have eS:=hc y d u z i k v;split
  ·rw[a];omega
  ·exact eS
theorem aDQ
  (ih:∀(r:Nat) (F c:List Int),(∃lo hi,Ok f.n h r lo hi)->dp+1+h<F.length->c.length=f.c.length->Cl f ht h c->(∀x,0<=c.getD x 0)->(¬(dp+1=0\/F.getD (dp+1-1) 0=1)->1<=c.getD r 0)->∃F' c',(bD f h r ((dp+1:Nat):Int)).foldl edS (F,c,sn c)=(F',c',sn c')/\Ed f ht h (dp+1) F c F' c'/\c'=(if dp+1=0\/F.getD (dp+1-1) 0=1 then vis (KF f) h c r else c)/\1<=c'.getD r 0):
  ∀(es:List E3) (F c:List Int),(∀e∈es,∃lo hi,Ok f.n h (ch e) lo hi)->dp+1+h<F.length->c.length=f.c.length->Cl f ht h c->(∀x,0<=c.getD x 0)->(F.getD dp 0≠1->∀e∈es,1<=c.getD (ch e) 0)->
   ∃F' c',(es.flatMap fun e=>bD f h (ch e) ((dp+1:Nat):Int)).foldl edS (F,c,sn c)=(F',c',sn c')/\Ed f ht h (dp+1) F c F' c'/\c'=(if F.getD dp 0=1 then(es.map ch).foldl (vis (KF f) h) c else c)/\∀e∈es,1<=c'.getD (ch e) 0
 | [],F,c,d,hF,j,i,k,g=>⟨F,c,rfl,.refl _ _ i,by simp,fun e d=>by simp at d⟩
 | a :: es,F,c,d,hF,j,i,k,g=>by
  have o:(dp+1=0\/F.getD (dp+1-1) 0=1)=(F.getD dp 0=1):=by simp
  obtain⟨m,n,w,b,p,y⟩:=ih (ch a) F c (d a List.mem_cons_self) hF j i k (fun q=>g (by rw[o]at q;exact q) a List.mem_cons_self);simp only[o]at p;have t:∀x,0<=n.getD x 0:=fun x=>Int.le_trans (k x) (b.mono x);have l:m.getD dp 0=F.getD dp 0:=b.fj dp (by omega);obtain⟨u,v,z,s,A,B⟩:=aDQ ih es m n (fun e q=>d e (List.mem_cons_of_mem _ q)) (by rw[b.fl];exact hF) (b.cl.trans j) b.et t (fun q e C=>Int.le_trans (g (by rw[<-l];exact q) e (List.mem_cons_of_mem _ C)) (b.mono _));refine⟨u,v,?_,b.trans s,?_,fun e q=>?_⟩
  ·rw[List.flatMap_cons,List.foldl_append,w,z]
  ·rw[A,l,p]
   by_cases q:F.getD dp 0=1
   ·simp only[if_pos q,List.map_cons,List.foldl_cons]
   ·simp only[if_neg q]
  ·rcases List.mem_cons.1 q with q | q
   ·subst q;exact Int.le_trans y (s.mono _)
   ·exact B e q
theorem aNF{f:fZ}(B:IC f){ht:Nat->Nat}(n:Hts f.n ht):∀(h r dp:Nat) (F c:List Int),(∃lo hi,Ok f.n h r lo hi)->dp+h<F.length->c.length=f.c.length->Cl f ht h c->(∀x,0<=c.getD x 0)->(¬(dp=0\/F.getD (dp-1) 0=1)->1<=c.getD r 0)->
  ∃F' c',(bD f h r (dp:Int)).foldl edS (F,c,sn c)=(F',c',sn c')/\Ed f ht h dp F c F' c'/\c'=(if dp=0\/F.getD (dp-1) 0=1 then vis (KF f) h c r else c)/\1<=c'.getD r 0
 | 0,r,dp,F,c,⟨lo,hi,k⟩,hF,v,u,o,t=>by
  have X:=nY n k;obtain⟨es,i,_⟩:=k;have p:r<c.length:=by rw[v];exact B.lt i
  have S:∀N:List Int,Cl f ht 0 N:=fun N y d a s _ k l=>by
   rcases n y d a with⟨q,_⟩ | ⟨_,q⟩
   ·simp[kids,q]at l
   ·have:=q k l;omega
  have e1:(dP f r dp).1.toNat=r:=rfl;have P:=fun x=>iR c r x p;obtain⟨F',c',D,G,H,I,J,K,w,m,z,_⟩:=aIQ (f:=f) (ht:=fun x=>ht x+1) (h:=0) p o (by omega) t (fun y d a s=>by simp at s) (Nat.succ_pos _);refine⟨F',c',by simpa [bD] using D,⟨J,K,w,m,fun x hx=>z x fun e=>(by subst e;omega),S _⟩,?_,I⟩;rw[H];have hv:vis (KF f) 0 c r=eW c r:=by unfold vis lS;split<;>rfl
  rw[hv]
 | h+1,r,dp,F,c,⟨lo,hi,k⟩,hF,v,u,o,t=>by
  have X:=nY n k;obtain⟨es,i,q2,q3,q4,q5⟩:=k;have p:r<c.length:=by rw[v];exact B.lt i
  have oh:kids (look f r)=es.map ch:=by rw[cG i];simp[kids]
  have ap:Cl f ht h c:=fun y d a s=>u y d a (by omega);have P:=fun x=>iR c r x p;obtain⟨V,O,D,G,H,I,J,K,w,m,z,E⟩:=aIQ (f:=f) (ht:=ht) (h:=h) p o (by omega) t ap (by omega);have U:∀x,0<=O.getD x 0:=fun x=>Int.le_trans (o x) (m x);have M:∀e∈es,∃lo hi,Ok f.n h (ch e) lo hi:=fun e b=>by
   obtain⟨j,C,rfl⟩:=cH b;exact⟨_,_,(q5 j C).2⟩
  have T:∀e∈es,ch e∈kids (2,es):=fun e b=>by simp only[kids,if_true];exact List.mem_map_of_mem b
  have hkh:∀e∈es,ht (ch e)=h:=fun e b=>by obtain⟨_,_,q⟩:=M e b;exact nY n q
  obtain⟨W,c2,m1,g,m3,m4⟩:=aDQ (f:=f) (ht:=ht) (h:=h) (dp:=dp) (fun r' F' c' Y Z a3 a4 a5 a6=>aNF B n h r' (dp+1) F' c' Y Z a3 a4 a5 a6) es V O M (by omega) (w.trans v) E U (fun q e b=>by
   rw[G]at q;have dw:1<=c.getD r 0:=by
    by_cases Q:1<=c.getD r 0
    ·exact Q
    ·rw[if_neg Q]at q;exact absurd rfl q
   exact Int.le_trans (u r _ i (by omega) dw _ (T e b)) (m _))
  refine⟨W,c2,?_,⟨g.fl.trans J,fun j C=>(g.fj j (by omega)).trans (K j C),g.cl.trans w,fun x=>Int.le_trans (m x) (g.mono x),fun x hx=>(g.high x (by omega)).trans (z x fun e=>by subst e;omega),?_⟩,?_,Int.le_trans I (g.mono _)⟩
  ·simp only[bD,List.foldl_cons,cG i]
   rw[D];exact m1
  ·intro y d a s A k l
   by_cases oy:ht y<=h
   ·exact g.et y d a oy A k l
   ·by_cases L:y=r
    ·subst L
     rw[i]at a;cases a;have:k∈es.map ch:=by simpa [kids] using l
     obtain⟨e,b,rfl⟩:=List.mem_map.1 this;exact m4 e b
    ·rw[g.high y (by omega),z y L]at A
     have:=u y d a s A k l
     exact Int.le_trans this (Int.le_trans (m _) (g.mono _))
  ·rw[m3,G,H]
   by_cases q:dp=0\/F.getD (dp-1) 0=1
   ·simp only[if_pos q]
    unfold vis;rw[P,bV];by_cases R:1<=c.getD r 0
    ·rw[if_pos R,if_neg (by decide),if_neg (by omega)]
    ·have:=o r
     rw[if_neg R,if_pos rfl,if_pos (by omega),nG];unfold KF;rw[oh];rfl
   ·simp only[if_neg q]
    rw[if_pos (t q),if_neg (by decide)]
theorem view1_inj'{c:Nat}{x y:Int}(h:dP f b x=dP f c y):b=c:=by
 have:=congrArg Prod.fst h
 simp only[dP]at this;omega
theorem uH:∀{h r:Nat} {lo hi:OB},Ok f.n h r lo hi->∀{dp:Int} {v:VW},v∈bD f h r dp->v=dP f r dp\/dp+1<=v.2.1
 | 0,r,lo,hi,k,dp,v,a=>.inl (List.mem_singleton.1 a)
 | h+1,r,lo,hi,k,dp,v,a=>by
  obtain⟨es,b,i,l,m,c⟩:=k;simp only[bD,cG b,List.mem_cons,List.mem_flatMap]at a;rcases a with a | ⟨e,d,a⟩
  ·exact .inl a
  ·obtain⟨j,g,rfl⟩:=cH d
   right
   rcases uH (c j g).2 a with e | e
   ·rw[e];exact Int.le_refl _
   ·omega
theorem uI:∀{h r:Nat} {lo hi:OB},Ok f.n h r lo hi->∀{dp:Int} {v:VW},v∈bD f h r dp->∃b d,f.n b=some d/\v=dP f b v.2.1/\dp<=v.2.1/\v.2.1<=dp+h/\(d.1=1->v.2.1=dp+h)/\d.2.length<=5/\(dp<v.2.1->2<=d.2.length)
 | h,r,lo,hi,k,dp,v,a=>by
  obtain⟨d,t,_,u,_,w⟩:=k.ba;rcases uH k a with q | q
  ·subst q
   refine⟨r,d,t,rfl,Int.le_refl _,by simp only[dP];omega,fun q=>?_,u,fun q=>by simp[dP]at q⟩;have:=w.2 q;simp only[dP];omega
  ·cases h with
   | zero=>rw[List.mem_singleton.1 a]at q;simp only[dP]at q;omega
   | succ h=>
    obtain⟨es,x,B,C,D,i⟩:=k;simp only[bD,cG x,List.mem_cons,List.mem_flatMap]at a;rcases a with a | ⟨e,y,a⟩
    ·rw[a]at q;simp only[dP]at q;omega
    ·obtain⟨j,l,rfl⟩:=cH y
     obtain⟨b,d,m,g,z,A,n,o,p⟩:=uI (i j l).2 a;refine⟨b,d,m,g,by omega,by omega,fun q=>by have:=n q;omega,o,fun _=>?_⟩;rcases uH (i j l).2 a with e | e
     ·rw[e]at g
      have c:=(i j l).1;have s:=view1_inj' g;rw[s]at c;unfold sz at c;rw[m]at c;exact c
     ·exact p (by omega)
theorem uJ:∀{h r:Nat} {lo hi:OB},Ok f.n h r lo hi->∀{dp:Int},∃v∈bD f h r dp,v.2.2.1=1
 | 0,r,lo,hi,k,dp=>by
  obtain⟨es,b,_⟩:=k;exact⟨_,List.mem_singleton.2 rfl,by simp[dP,cG b]⟩
 | h+1,r,lo,hi,k,dp=>by
  obtain⟨es,b,i,c,j,d⟩:=k;obtain⟨a,es',rfl⟩:=List.exists_cons_of_ne_nil c;obtain⟨v,g,e⟩:=uJ (d 0 (by simp)).2 (dp:=dp+1);exact⟨v,by simp only[bD,cG b,List.mem_cons,List.mem_flatMap];exact .inr ⟨a,.inl rfl,g⟩,e⟩
theorem pL:∀{h b:Nat} {lo hi:OB},Ok f.n h b lo hi->2<=sz f.n b->2 ^ (h+1)<=(bJ f.n h b).length
 | 0,b,lo,hi,k,g=>by
  obtain⟨es,d,_⟩:=k;have:sz f.n b=es.length:=by unfold sz;rw[d]
  simp only[bJ,cZ d,List.length_map];omega
 | h+1,b,lo,hi,k,g=>by
  obtain⟨es,d,p,q,r,e⟩:=k;have i:sz f.n b=es.length:=by unfold sz;rw[d]
  rw[i]at g;match es,g,e,d with
  | a :: c :: l,_,e,d=>
   have n:=pL (e 0 (by simp)).2 (e 0 (by simp)).1;have o:=pL (e 1 (by simp)).2 (e 1 (by simp)).1;simp only[bJ,cZ d,List.flatMap_cons,lP];have j:kd (a :: c :: l) 0=ch a:=rfl;have m:kd (a :: c :: l) 1=ch c:=rfl;rw[j]at n;rw[m]at o;rw[Nat.pow_succ];omega
theorem zI(a:IC f){lo hi:OB}(k:Ok f.n h b lo hi)(c:h=0\/2<=sz f.n b):h<=60:=by
 rcases c with e | e
 ·omega
 ·have d:=pL k e
  have g:=pK a k;apply Nat.le_of_not_lt;intro q;have i:2 ^ 12<=2 ^ (h+1):=Nat.pow_le_pow_right (by decide) (by omega);have j:(2:Nat) ^ 12=4096:=by decide
  omega
abbrev vz:VW:=(0,0,0,0,0)
structure VOK(f:fZ)(H:Int)(V:List VW):Prop where
 ne:0<V.length
 few:V.length<=5120
 hi:0<=H/\H<=60
 a1:∀i,i<V.length->2<=(V.getD i vz).1/\(V.getD i vz).1<f.c.length
 a2:∀i,i<V.length->0<=(V.getD i vz).2.1/\(V.getD i vz).2.1<=60/\((V.getD i vz).2.1=0↔i=0)
 a3:∀i,i<V.length->(V.getD i vz).2.2.2.2=f.c.getD (V.getD i vz).1.toNat 0
 a4:∀i,i<V.length->0<=(V.getD i vz).2.2.2.1/\(V.getD i vz).2.2.2.1<=5/\(2<=(V.getD i vz).2.2.2.1\/(i=0/\(V.getD i vz).2.2.1=1))
 a5:∀i,i<V.length->(V.getD i vz).2.2.1=1->(V.getD i vz).2.1=H
 lf:∃i,i<V.length/\(V.getD i vz).2.2.1=1
theorem vok(l:Inv f){t:Nat}(ht:t<f.r.length):∃H,VOK f H (shp f (aB f t)):=by
 obtain⟨h,k,p⟩:=l.ok t ht;obtain⟨e,_,z⟩:=aCP l.ic k p;rw[e];have L:=zI l.ic k p;have J:∀i,i <(bD f h (aB f t) 0).length->(bD f h (aB f t) 0).getD i vz∈bD f h (aB f t) 0:=fun i a=>by
  rw[gD,gE a];exact List.getElem_mem _
 have n:=fun i a=>uI k (J i a);have o:(bD f h (aB f t) 0).getD 0 vz=dP f (aB f t) 0:=by cases h<;>rfl
 have x:∀i,i <(bD f h (aB f t) 0).length->i≠0->1<=((bD f h (aB f t) 0).getD i vz).2.1:=fun i a o=>by
  cases h with
  | zero=>simp[bD]at a;omega
  | succ h=>
   obtain⟨j,rfl⟩:∃j,i=j+1:=⟨i-1,by omega⟩;obtain⟨es,C,z,O,P,D⟩:=k;have m:(bD f (h+1) (aB f t) 0).getD (j+1) vz∈(bD f (h+1) (aB f t) 0).tail:=by
    rw[gD,gE a];have:(bD f (h+1) (aB f t) 0)[j+1]=(bD f (h+1) (aB f t) 0).tail[j]'(by simp;omega):=by rw[List.getElem_tail]
    rw[Option.getD_some,this];exact List.getElem_mem _
   generalize (bD f (h+1) (aB f t) 0).getD (j+1) vz=v at m |-;simp only[bD,cG C,List.tail_cons,List.mem_flatMap]at m;obtain⟨e,E,m⟩:=m;obtain⟨G,K,rfl⟩:=cH E;obtain⟨_,_,_,_,q,_⟩:=uI (D G K).2 m;exact q
 have I:∀i,i=0->((bD f h (aB f t) 0).getD i vz).2.1=0:=fun i e=>by rw[e,o];rfl
 refine⟨h,by have:=nF k 0;omega,z,by omega,fun i a=>?_,fun i a=>?_,fun i a=>?_,fun i a=>?_,fun i a q=>?_,?_⟩
 ·obtain⟨b,d,g,c,_⟩:=n i a
  rw[c];have:=l.ic.dr g;have:=l.ic.lt g;simp only[dP];omega
 ·obtain⟨b,d,g,c,r,s,_⟩:=n i a
  refine⟨by omega,by omega,fun q=>?_,I i⟩;by_cases e:i=0
  ·exact e
  ·have:=x i a e;omega
 ·obtain⟨b,d,g,c,_⟩:=n i a
  rw[c];rfl
 ·obtain⟨b,d,g,c,r,s,u,A,w⟩:=n i a
  by_cases e:i=0
  ·subst e
   rw[o]at c |-;obtain⟨d',y,M,N,_,B⟩:=k.ba;simp only[dP,cG y];refine⟨by omega,by omega,?_⟩;rcases p with e | e
   ·exact .inr ⟨trivial,B.1 e⟩
   ·left;unfold sz at e;rw[y]at e;simp only at e;omega
  ·have:=x i a e
   have Q:=w (by omega);rw[c];simp only[dP,cG g];exact⟨by omega,by omega,.inl (by omega)⟩
 ·obtain⟨b,d,g,c,r,s,u,A,w⟩:=n i a
  rw[c]at q;simp only[dP,cG g]at q;have:=u q;omega
 ·obtain⟨v,F,e⟩:=uJ k (dp:=0)
  obtain⟨i,a,rfl⟩:=List.mem_iff_getElem.1 F;exact⟨i,a,by rw[gD,gE a];exact e⟩
structure Bd(n:Nat)(m:Int)(s:Sg):Prop where
 l1:s.1.length=64
 l2:s.2.1.length=n
 l3:s.2.2.length=n
 c:∀x,0<=s.2.1.getD x 0/\s.2.1.getD x 0<=m
 s':∀x,0<=s.2.2.getD x 0/\s.2.2.getD x 0<=1
theorem Bd.step{s:Sg}(h:Bd n m s)(a:0<=m)(v:VW):Bd n (m+1) (edS s v):=by
 refine⟨by simp[edS,h.l1],?_,by simp[edS,h.l3],fun x=>?_,fun x=>?_⟩
 ·unfold edS;simp only;split
  ·rw[gM];exact h.l2
  ·exact h.l2
 ·have b:=h.c x
  unfold edS;simp only;split
  ·unfold eW;rw[dI];have:=h.c v.1.toNat;split<;>omega
  ·omega
 ·unfold edS;simp only;rw[dI];have:=h.s' x;split<;>omega
theorem Bd.run{s:Sg}(h:Bd n m s)(a:0<=m)(V:List VW):∀i:Nat,i<=V.length->Bd n (m+i) ((V.take i).foldl edS s)
 | 0,_=>by simpa using h
 | i+1,b=>by
  have:=(h.run a V i (by omega)).step (by omega) (V.getD i vz)
  rw[List.take_add_one,gE (by omega)];rw[gD,gE (by omega)]at this;simp only[Option.toList_some,List.foldl_append,List.foldl_cons,List.foldl_nil];have e:m+(i:Int)+1=m+((i+1:Nat):Int):=by omega
  rw[<-e];exact this
theorem aKJ{s:Sg}{V:List VW}{i:Nat}(a:i<V.length):(V.take (i+1)).foldl edS s=edS ((V.take i).foldl edS s) (V.getD i vz):=by
 rw[List.take_add_one,gE a,gD,gE a];simp only[Option.toList_some,List.foldl_append,List.foldl_cons,List.foldl_nil,Option.getD_some]
def z64:List Int:=List.replicate 64 0
def edT(f:fZ)(ht:Nat->Nat)(k:Nat):List Int:=((f.r.take k).map fun r=>r.2.toNat).foldl (fun c r=>vis (KF f) (ht r) c r) (List.replicate f.c.length 0)
theorem aLZ(a:IC f)(e:Hts f.n ht):edT f ht f.r.length=f.c:=by
 unfold edT;rw[List.take_length];exact aDO a e fun b d c=>by unfold KF;rw[cG c]
theorem aIO(ht:Nat->Nat)(a:k<f.r.length):edT f ht (k+1)=vis (KF f) (ht (aB f k)) (edT f ht k) (aB f k):=by
 unfold edT aB;rw[List.take_add_one,gE a,gD,gE a];simp only[Option.toList_some,List.map_append,List.map_cons,List.map_nil,List.foldl_append,List.foldl_cons,List.foldl_nil,Option.getD_some]
theorem zC(a:Inv f)(g:Hts f.n ht)(c:k<f.r.length)(h1:(edT f ht k).length=f.c.length)(h2:∀h,Cl f ht h (edT f ht k))(h3:∀x,0<=(edT f ht k).getD x 0):∃F',(shp f (aB f k)).foldl edS (z64,edT f ht k,sn (edT f ht k))=(F',edT f ht (k+1),sn (edT f ht (k+1)))/\Ed f ht (ht (aB f k)) 0 z64 (edT f ht k) F' (edT f ht (k+1)):=by
 obtain⟨h,q,j⟩:=a.ok k c;obtain⟨e,_,_⟩:=aCP a.ic q j;have o:=zI a.ic q j;obtain⟨F',n,l,m,b,p⟩:=aNF a.ic g h (aB f k) 0 z64 (edT f ht k) ⟨_,_,q⟩ (by simp[z64];omega) h1 (h2 h) h3 (fun q=>absurd (Or.inl rfl) q);rw[if_pos (.inl rfl)]at b;have i:=nY g q;have d:edT f ht (k+1)=n:=by rw[aIO ht c,i,b]
 exact⟨F',by rw[e,d];exact l,by rw[d,i];exact m⟩
theorem zB(i:Inv f)(l:Hts f.n ht):∀k,k<=f.r.length->(edT f ht k).length=f.c.length/\(∀h,Cl f ht h (edT f ht k))/\(∀x,0<=(edT f ht k).getD x 0)
 | 0,_=>by
  have j:∀x,(edT f ht 0).getD x 0=0:=fun x=>eK _ x;exact⟨by simp[edT],fun h y d b p a=>by rw[j]at a;omega,fun x=>by rw[j];exact Int.le_refl _⟩
 | k+1,o=>by
  obtain⟨c,e,g⟩:=zB i l k (by omega);obtain⟨s,_,m⟩:=zC i l o c e g;refine⟨m.cl.trans c,fun h y d b p a q n=>?_,fun x=>Int.le_trans (g x) (m.mono x)⟩;by_cases r:ht y<=ht (aB f k)
  ·exact m.et y d b r a q n
  ·rw[m.high y (by omega)]at a
   exact Int.le_trans (e (ht y) y d b (nR _) a q n) (m.mono _)
theorem aIP(a:Inv f)(b:Hts f.n ht)(g:k<f.r.length):∃F',(shp f (aB f k)).foldl edS (z64,edT f ht k,sn (edT f ht k))=(F',edT f ht (k+1),sn (edT f ht (k+1))):=by
 obtain⟨c,d,e⟩:=zB a b k (by omega);obtain⟨F',m,_⟩:=zC a b g c d e;exact⟨F',m⟩
