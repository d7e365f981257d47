import Derived.Test.YtaahkgkdpnnhhaaGreatFo20
set_option linter.all false
namespace Go.Proofs.YtaahkgkdpnnhhaaGreat.Fo
theorem qV(g:Nat→Nat):∀n:Nat,∃M,∀x,x<n→g x≤M
 | 0=>⟨0,fun x h=>by omega⟩
 | n+1=>by
  obtain⟨M,h⟩:=qV g n;refine⟨M+g n,fun x hx=>?_⟩;by_cases e:x=n
  ·subst e;omega
  ·have:=h x (by omega);omega
theorem Inv.sound{f:fZ}(h:Inv f){b:Nat}{d:Nd}(hd:f.nodes b=some d):∃k lo hi,Ok f.nodes k b lo hi:=by
 obtain⟨ht,hh⟩:=h.ic.ht;obtain⟨M,hM⟩:=qV ht f.cur.length;have key:∀(m:Nat) (b:Nat) (d:Nd),M-ht b≤m→f.nodes b=some d→∃k lo hi,Ok f.nodes k b lo hi:=by
  intro m;induction m with
  | zero=>
   intro b d hm hd;have hb:=h.ic.lt hd;have hp:=h.ic.cu_pos hd;rw[h.ic.names hb]at hp;by_cases hr:0<rc f.roots b
   ·obtain⟨r,yl,ph⟩:=List.mem_map.1 (List.count_pos_iff.1 hr)
    obtain⟨t,Aa,Ac⟩:=List.getElem_of_mem yl;obtain⟨k,hk,_⟩:=h.ok t Aa;refine⟨k,none,none,?_⟩;have:aB f t=b:=by unfold aB;rw[gD,gE Aa,Ac];exact ph
    rw[←this];exact hk
   ·have CS:0<deg f.nodes f.cur.length b:=by omega
    obtain⟨x,hx,hc⟩:=jP CS;cases iy:f.nodes x with
    | none=>simp[iy,bZ]at hc
    | some dx=>
     rw[iy]at hc;have qa:b∈kids dx:=List.count_pos_iff.1 hc;rcases hh x dx iy with⟨q,_⟩ | ⟨_,q⟩
     ·simp[kids,q]at qa
     ·have:=q b qa;have:=hM x hx;omega
  | succ m ih=>
   intro b d hm hd;have hb:=h.ic.lt hd;have hp:=h.ic.cu_pos hd;rw[h.ic.names hb]at hp;by_cases hr:0<rc f.roots b
   ·obtain⟨r,yl,ph⟩:=List.mem_map.1 (List.count_pos_iff.1 hr)
    obtain⟨t,Aa,Ac⟩:=List.getElem_of_mem yl;obtain⟨k,hk,_⟩:=h.ok t Aa;refine⟨k,none,none,?_⟩;have:aB f t=b:=by unfold aB;rw[gD,gE Aa,Ac];exact ph
    rw[←this];exact hk
   ·have CS:0<deg f.nodes f.cur.length b:=by omega
    obtain⟨x,hx,hc⟩:=jP CS;cases iy:f.nodes x with
    | none=>simp[iy,bZ]at hc
    | some dx=>
     rw[iy]at hc;have qa:b∈kids dx:=List.count_pos_iff.1 hc;rcases hh x dx iy with⟨q,_⟩ | ⟨q2,q⟩
     ·simp[kids,q]at qa
     ·have h1:=q b qa
      have h2:=hM x hx;obtain⟨k,lo,hi,hk⟩:=ih x dx (by omega) iy;cases k with
      | zero=>obtain⟨es,he,_⟩:=hk;rw[iy]at he;cases he;simp at q2
      | succ k=>
       obtain⟨es,he,_,_,_,h5⟩:=hk;rw[iy]at he;cases he;rw[kids,if_pos rfl]at qa;obtain⟨e,EO,vj⟩:=List.mem_map.1 qa;obtain⟨j,hj,Jn⟩:=cN EO;have:=(h5 j hj).2;have ie:kd es j=b:=by unfold kd;rw[Jn];exact vj
       rw[ie]at this;exact⟨k,_,_,this⟩
 exact key _ b d (nR _) hd
theorem Inv.ent{f:fZ}(h:Inv f){b:Nat}{d:Nd}(hd:f.nodes b=some d):d.2.length≤5:=by
 obtain⟨k,lo,hi,hk⟩:=h.sound hd;obtain⟨d',h1,_,h2,_⟩:=hk.sz_pos;rw[hd]at h1;cases h1;exact h2
theorem oG{g:Nat→Nat}{m:Nat}:∀{n:Nat},(∀x,x<n→g x≤m)→cQ n g≤n*m
 | 0,_=>by simp[cQ]
 | n+1,h=>by
  have h1:=oG (n:=n) fun x hx=>h x (by omega);have h2:=h n (by omega);simp only[cQ];rw[Nat.succ_mul];omega
theorem Inv.counts{f:fZ}(h:Inv f)(x:Nat):0≤cu f x∧cu f x≤2576:=by
 by_cases hx:x<f.cur.length
 ·rw[h.ic.names hx]
  have h1:rc f.roots x≤16:=by
   have:=List.count_le_length (a:=x) (l:=f.roots.map fun r=>r.2.toNat)
   have:=h.r16
   unfold rc;simp at *;omega
  have h2:deg f.nodes f.cur.length x≤f.cur.length*5:=oG fun y hy=>by
   cases hny:f.nodes y with
   | none=>simp[bZ]
   | some d=>
    have:=h.ent hny
    have h3:=List.count_le_length (a:=x) (l:=kids d);have h4:(kids d).length≤d.2.length:=by unfold kids;split<;>simp
    simp only[bZ];omega
  have:=h.ic.n512
  omega
 ·rw[wF (by omega)];omega
theorem Ok.spine{nodes:Nat→Option Nd}:∀{h b:Nat} {lo hi:OB},Ok nodes h b lo hi→∀{ht:Nat→Nat},Hts nodes ht→∃l:List Nat,l.length=h+1∧(∀x∈l,ht x≤h∧∃d,nodes x=some d)∧l.Nodup
 | 0,b,lo,hi,k,ht,hh=>by
  obtain⟨d,hd,_⟩:=k.sz_pos;have:=yS hh k;exact⟨[b],rfl,fun x hx=>by simp only[List.mem_singleton]at hx;subst hx;exact⟨by omega,d,hd⟩,by simp⟩
 | h+1,b,lo,hi,k,ht,hh=>by
  have hb:=yS hh k;obtain⟨es,h1,h2,h3,h4,h5⟩:=k;have h0:0<es.length:=List.length_pos_iff.2 h3;obtain⟨l,l1,l2,l3⟩:=Ok.spine (h5 0 h0).2 hh;refine⟨b :: l,by simp[l1],fun x hx=>?_,List.nodup_cons.2 ⟨fun q=>?_,l3⟩⟩
  ·rcases List.mem_cons.1 hx with e | e
   ·subst e;exact⟨by omega,_,h1⟩
   ·exact⟨by have:=(l2 x e).1;omega,(l2 x e).2⟩
  ·have:=(l2 b q).1;omega
theorem Ok.high{f:fZ}(h:IC f){k b:Nat}{lo hi:OB}(hk:Ok f.nodes k b lo hi):k<f.cur.length:=by
 obtain⟨ht,hh⟩:=h.ht;obtain⟨l,l1,l2,l3⟩:=hk.spine hh;have:=few f.cur.length l l3 fun x hx=>by
  obtain⟨_,d,hd⟩:=l2 x hx;exact h.lt hd
 omega
def hgt(nodes:Nat→Option Nd):Nat→Nat→Nat
 | 0,_=>0
 | n+1,b=>match nodes b with
  | some (k,e :: _)=>if k=2 then hgt nodes n (ch e)+1 else 0
  | _=>0
theorem aGV{nodes:Nat→Option Nd}:∀{n h b:Nat} {lo hi:OB},Ok nodes h b lo hi→h≤n→hgt nodes n b=h
 | 0,h,b,lo,hi,k,hn=>by
  have:h=0:=by omega
  subst this;rfl
 | n+1,0,b,lo,hi,k,hn=>by
  obtain⟨es,h1,_⟩:=k;unfold hgt;rw[h1];cases es<;>simp
 | n+1,h+1,b,lo,hi,k,hn=>by
  obtain⟨es,h1,h2,h3,h4,h5⟩:=k;unfold hgt;rw[h1];cases es with
  | nil=>exact absurd rfl h3
  | cons e es=>
   have:=aGV (n:=n) (h5 0 (by simp)).2 (by omega)
   simp only[if_pos];have e2:kd (e :: es) 0=ch e:=rfl;rw[e2]at this;rw[this]
def hOf(f:fZ)(t:Nat):Nat:=hgt f.nodes 512 (aB f t)
theorem Inv.hOf{f:fZ}(h:Inv f){t:Nat}(ht:t<f.roots.length):Wk f t (hOf f t)∧cD f t (hOf f t)∧Fo.hOf f t<512:=by
 obtain⟨H,h1,h2⟩:=h.wk ht;have ai:=h1.ok.high h.ic;have:Fo.hOf f t=H:=aGV h1.ok (by have:=h.ic.n512;omega);rw[this];exact⟨h1,h2,by have:=h.ic.n512;omega⟩
def bH(c:List Int)(p:List Int):List Int:=p.foldl (fun l x=>l.set x.toNat 1) c
theorem iV(p:List Int):∀c:List Int,(bH c p).length=c.length:=by
 induction p with
 | nil=>intro c;rfl
 | cons x p ih=>intro c;show(bH (c.set x.toNat 1) p).length=_;rw[ih];simp
theorem zX(p:List Int):∀(c:List Int) (i:Nat),(bH c p).getD i 0=c.getD i 0∨((bH c p).getD i 0=1∧(i:Int)∈p.map fun x=>(x.toNat:Int)):=by
 induction p with
 | nil=>intro c i;exact .inl rfl
 | cons x p ih=>
  intro c i;show(bH (c.set x.toNat 1) p).getD i 0=_∨((bH (c.set x.toNat 1) p).getD i 0=_∧_)
  rcases ih (c.set x.toNat 1) i with e | ⟨e,e'⟩
  ·rw[e,eL]
   by_cases q:x.toNat=i∧x.toNat<c.length
   ·rw[if_pos q];exact .inr ⟨rfl,by rw[List.map_cons,q.1];exact List.mem_cons_self⟩
   ·rw[if_neg q];exact .inl rfl
  ·exact .inr ⟨e,List.mem_cons_of_mem _ e'⟩
def dM(f:fZ)(p:List Int):fZ:={f with com:=bH f.cur p,table:=p,gen:=f.gen+1}
theorem Inv.settle{f:fZ}(h:Inv f){p:List Int}(hp:∀x∈p,2≤x)(hg:f.gen<1099511627776):Inv (dM f p):=by
 have ye:IC (dM f p):=⟨h.ic.n8,h.ic.n512,iV _ _,h.ic.D0,⟨h.ic.dom.dead,h.ic.dom.pos⟩,h.ic.two,h.ic.rb,h.ic.kb,h.ic.ht⟩;have Cu:∀b,co (dM f p) b=cu f b∨(co (dM f p) b=1∧(b:Int)∈p.map fun x=>(x.toNat:Int)):=fun b=>zX p f.cur b;refine⟨ye,h.ne,h.r16,h.ok,h.ids,h.idb,h.nx,⟨by show 1≤f.gen+1;have:=h.gn;omega,by show f.gen+1≤_;omega⟩,fun b hb=>?_,fun b=>?_⟩
 ·rcases Cu b with e | ⟨e,e'⟩
  ·rw[e];exact(h.ic.dom.dead b).1 (h.ic.two b hb)
  ·obtain⟨x,hx,q⟩:=List.mem_map.1 e'
   have:=hp x hx;omega
 ·have:=h.counts b
  rcases Cu b with e | ⟨e,_⟩<;>rw[e]<;>omega
def aH(n:Nat):fZ:={roots:=[(0,2)],next:=1,gen:=1,nodes:=fun b=>if b=2 then some (1,[])else none,cur:=(List.replicate n 0).set 2 1,com:=((List.replicate n 0).set 2 1).set 3 1,table:=[3]}
theorem iH(n i:Nat):(List.replicate n (0:Int)).getD i 0=0:=by
 rw[gD,List.getElem?_replicate];split<;>rfl
theorem Inv.fresh{n:Nat}(h8:8≤n)(VC:n≤512):Inv (aH n):=by
 have ot:∀b,cu (aH n) b=if b=2 then 1 else 0:=fun b=>by
  show((List.replicate n (0:Int)).set 2 1).getD b 0=_
  rw[eL,iH];by_cases e:b=2
  ·subst e;rw[if_pos ⟨rfl,by simp;omega⟩,if_pos rfl]
  ·rw[if_neg (fun q=>e q.1.symm),if_neg e]
 have Cu:∀b,co (aH n) b=if b=2∨b=3 then 1 else 0:=fun b=>by
  show(((List.replicate n (0:Int)).set 2 1).set 3 1).getD b 0=_
  rw[eL,eL,iH];by_cases e:b=3
  ·subst e;rw[if_pos ⟨rfl,by simp;omega⟩,if_pos (.inr rfl)]
  ·rw[if_neg (fun q=>e q.1.symm)]
   by_cases e2:b=2
   ·subst e2;rw[if_pos ⟨rfl,by simp;omega⟩,if_pos (.inl rfl)]
   ·rw[if_neg (fun q=>e2 q.1.symm),if_neg (by omega)]
 have hl:(aH n).cur.length=n:=by simp[aH]
 have F8:∀b d,(aH n).nodes b=some d→b=2∧d=(1,[]):=fun b d hd=>by
  simp only[aH]at hd;split at hd
  ·rename_i e;cases hd;exact⟨e,rfl⟩
  ·cases hd
 have CS:∀x,deg (aH n).nodes n x=0:=fun x=>by
  have:deg (aH n).nodes n x≤n*0:=oG fun y hy=>by
   cases hny:(aH n).nodes y with
   | none=>simp[bZ]
   | some d=>obtain⟨_,rfl⟩:=F8 y d hny;simp[bZ,kids]
  omega
 have ye:IC (aH n):=by
  refine⟨by omega,by omega,by simp[aH],fun x hx=>?_,⟨fun b=>?_,fun b=>?_⟩,fun b hb=>?_,fun r hr=>?_,fun b d hd=>?_,fun _=>0,fun b d hd=>?_⟩
  ·unfold df
   rw[hl]at *;rw[ot,CS];have:rc (aH n).roots x=if x=2 then 1 else 0:=by
    show([(2:Int).toNat]:List Nat).count x=_
    rw[List.count_singleton];by_cases e:x=2
    ·subst e;simp
    ·rw[if_neg e];simp;omega
   rw[this];by_cases e:x=2<;>simp[e]
  ·rw[ot]
   by_cases e:b=2
   ·subst e;simp[aH]
   ·simp[aH,e]
  ·rw[ot];split<;>omega
  ·simp[aH];omega
  ·simp only[aH,List.mem_singleton]at hr;subst hr;rw[hl];exact⟨by decide,by simp;omega⟩
  ·obtain⟨_,rfl⟩:=F8 b d hd;exact .inl rfl
  ·obtain⟨_,rfl⟩:=F8 b d hd;exact .inl ⟨rfl,rfl⟩
 refine⟨ye,by simp[aH],by simp[aH],fun t ht=>⟨0,?_,.inl rfl⟩,fun i j g8 hj=>?_,fun i hi=>?_,by simp[aH],by simp[aH],fun b hb=>?_,fun b=>?_⟩
 ·have:t=0:=by simp[aH]at ht;omega
  subst this;exact⟨[],rfl,⟨fun i j _ hj=>by simp at hj,fun i hi=>by simp at hi,fun i hi=>by simp at hi,by simp⟩,fun i hi=>by simp at hi⟩
 ·simp[aH]at hj;omega
 ·have:i=0:=by simp[aH]at hi;omega
  subst this;simp[aH,rid]
 ·rw[Cu,if_neg (by omega)]
 ·rw[Cu];split<;>omega
section
variable {f : fZ} {s : Nat → Nat} {c : List Int} {e : Nat → Bool} {k : Nat} {Q : List Nat}
theorem J.first{d:Nd}(h:IC f)(hJ:J f s c e (k :: Q))(hd:f.nodes k=some d)(h0:c.getD k 0=0):J f s (gU c k) (fun y=>e y || y == k) (kids d++Q):=by
 have tg:=h.lt hd;have mi:k<c.length:=by rw[hJ.len];exact tg
 have hg:=fun x=>nM c k x mi;have au:∀x,((k :: Q).count x:Nat)=Q.count x+one k x:=fun x=>by simp only[List.count_cons,beq_iff_eq,one]
 have Fx:e k=false:=by
  cases q:e k with
  | false=>rfl
  | true=>have:=(hJ.vis k tg).1 q;omega
 refine⟨by rw[jM];exact hJ.len,fun x hx=>?_,fun x=>?_,fun x hx=>?_,fun x hx=>?_⟩
 ·have:=hJ.eq x hx
  rw[au]at this;rw[hg,qY tg hd Fx,List.count_append];omega
 ·rw[hg];have:=hJ.pos x;omega
 ·rw[hg]
  by_cases q:x=k
  ·subst q;rw[cA];have hp:=hJ.pos x;exact⟨fun _=>by omega,fun _=>by simp⟩
  ·have:(x == k)=false:=by simp[q]
   rw[this,Bool.or_false,fU (Ne.symm q)];have:=hJ.vis x hx;simpa using this
 ·simp only[Bool.or_eq_true,beq_iff_eq]at hx
  rcases hx with hx | hx
  ·exact hJ.live x hx
  ·subst hx;exact⟨d,hd⟩
theorem J.more(hJ:J f s c e (k :: Q))(tg:k<f.cur.length)(h0:¬c.getD k 0=0):J f s (gU c k) e Q:=by
 have mi:k<c.length:=by rw[hJ.len];exact tg
 have hg:=fun x=>nM c k x mi;have au:∀x,((k :: Q).count x:Nat)=Q.count x+one k x:=fun x=>by simp only[List.count_cons,beq_iff_eq,one]
 refine⟨by rw[jM];exact hJ.len,fun x hx=>?_,fun x=>?_,fun x hx=>?_,hJ.live⟩
 ·have:=hJ.eq x hx
  rw[au]at this;rw[hg];omega
 ·rw[hg];have:=hJ.pos x;omega
 ·rw[hg]
  have h1:=hJ.vis x hx;by_cases q:k=x
  ·subst q;rw[cA]
   have:=hJ.pos k
   constructor
   ·intro _;omega
   ·intro _;exact h1.2 (by omega)
  ·rw[fU q];simpa using h1
theorem aJJ(nodes:Nat→Option Nd)(n:Nat)(e:Nat→Bool)(x:Nat):pZ nodes n e x≤deg nodes n x:=by
 unfold pZ deg;induction n with
 | zero=>exact nR _
 | succ n ih=>
  simp only[cQ];have:(if e n=true then(bZ (nodes n)).count x else 0)≤(bZ (nodes n)).count x:=by split<;>omega
  omega
theorem J.le{P:List Nat}(h:IC f)(hJ:J f (rc f.roots) c e P)(x:Nat):0≤c.getD x 0∧c.getD x 0≤cu f x:=by
 refine⟨hJ.pos x,?_⟩;by_cases hx:x<f.cur.length
 ·have h1:=hJ.eq x hx
  have h2:=h.names hx;have h3:=aJJ f.nodes f.cur.length e x;omega
 ·rw[wF (by omega),gD,List.getElem?_eq_none (by rw[hJ.len];omega)];simp
theorem J.start(f:fZ):J f (rc f.roots) (List.replicate f.cur.length 0) (fun _=>false) (f.roots.map fun r=>r.2.toNat):=by
 refine⟨by simp,fun x hx=>?_,fun x=>?_,fun x hx=>?_,fun x hx=>by simp at hx⟩
 ·rw[uS,iH];unfold rc;omega
 ·rw[iH];omega
 ·rw[iH];simp
end
end Go.Proofs.YtaahkgkdpnnhhaaGreat.Fo
namespace Go.Proofs.YtaahkgkdpnnhhaaGreat.Fo
variable{th:Bool}{key val:ByteArray}{e:E3}{k:Int}{a ces es pes ses:List E3}{P:List Nat}{H b c h i j t:Nat}{d:Nd}{hi lo:OB}{α:Type}{f f' g:fZ}
def nH(es:List E3)(key:ByteArray):Nat→Nat
 | 0=>0
 | k+1=>if kl key (ky es k)=true then nH es key k else k
theorem uW(hs:Srt es)(key:ByteArray):∀k,k≤es.length→nH es key k=min k (cLe es key)-1
 | 0,_=>by simp[nH]
 | k+1,h=>by
  have ih:=uW hs key k (by omega);have hi:=fY hs key (j:=k) (by omega);unfold nH;cases e:kl key (ky es k)with
  | true=>
   have:¬k<cLe es key:=fun q=>by rw[hi.2 q]at e;cases e
   rw[if_pos rfl,ih];omega
  | false=>
   have:=hi.1 e
   rw[if_neg (by simp)];omega
theorem rK(hs:Srt es)(key:ByteArray):nH es key es.length=bK es key:=by
 rw[uW hs key _ (nR _)];have:=vY es key;unfold bK;rw[show min es.length (cLe es key)=cLe es key by omega]
def qT(es:List E3)(key:ByteArray):Nat→Nat
 | 0=>0
 | k+1=>if kl (ky es k) key=true then k+1 else qT es key k
theorem xV(hs:Srt es)(key:ByteArray):∀k,k≤es.length→qT es key k=min k (cLt es key)
 | 0,_=>by simp[qT]
 | k+1,h=>by
  have ih:=xV hs key k (by omega);have hi:=gA hs key (j:=k) (by omega);unfold qT;cases e:kl (ky es k) key with
  | true=>
   have:=hi.1 e
   rw[if_pos rfl];omega
  | false=>
   have:¬k<cLt es key:=fun q=>by rw[hi.2 q]at e;cases e
   rw[if_neg (by simp),ih];omega
theorem xU(hs:Srt es)(key:ByteArray):qT es key es.length=cLt es key:=by
 rw[xV hs key _ (nR _)];have:=jS es key;omega
theorem aED(h:∀j,j<es.length→ky es j≠key):fC es key=false:=by
 cases e:fC es key with
 | false=>rfl
 | true=>obtain⟨a,b⟩:=(dG es key).1 e;exact absurd b (h _ a)
theorem aHT(hs:Srt es)(h0:∀i,i<es.length→(es.getD i e0).2.2=0)(hi:i<es.length)(e:ky es i=key):putE es key val=es.set i (key,val,0):=by
 obtain⟨h1,h2⟩:=jW hs hi e;unfold putE;rw[if_pos h1,h2,h0 i hi];have:(es.getD i e0).1=key:=e;rw[this]
theorem aKI(hs:Srt es)(h:∀j,j<es.length→ky es j≠key):putE es key val=insE es (qT es key es.length) (key,val,0):=by
 unfold putE;rw[aED h,xU hs];simp
def frB(f:fZ)(gk:Int)(b:Nat):Bool:=decide (2≤b) && (cu f b == 0) && (co f b == 0) && !((b:Int) == gk)
def mD(f:fZ)(gk:Int):Int:=match (List.range f.cur.length).find? (frB f gk)with
 | none=>-1
 | some b=>b
theorem aAC{gk:Int}(hl:g.cur.length=f.cur.length)(hb:∀b,b<f.cur.length→frB f gk b=(decide (2≤b) && (cu g b == 0) && (co g b == 0))):mD f gk=if aF g=0 then -1 else(aF g:Int):=by
 unfold mD aF;rw[hl];have:(List.range f.cur.length).find? (frB f gk)=(List.range f.cur.length).find? (fun b=>decide (2≤b) && (cu g b == 0) && (co g b == 0)):=by
  have aux:∀l:List Nat,(∀b∈l,b<f.cur.length)→l.find? (frB f gk)=l.find? (fun b=>decide (2≤b) && (cu g b == 0) && (co g b == 0)):=by
   intro l;induction l with
   | nil=>intro _;rfl
   | cons a l ih=>
    intro h;rw[List.find?_cons,List.find?_cons,hb a (h a List.mem_cons_self),ih fun b q=>h b (List.mem_cons_of_mem _ q)]
  exact aux _ fun b h=>List.mem_range.1 h
 rw[this];cases e:(List.range f.cur.length).find? (fun b=>decide (2≤b) && (cu g b == 0) && (co g b == 0))with
 | none=>simp
 | some b=>
  have h2:=List.find?_some e;simp only[Bool.and_eq_true,decide_eq_true_eq]at h2;have:b≠0:=by omega
  simp[this]
theorem mT(f:fZ):mD f (-1)=if aF f=0 then -1 else(aF f:Int):=aAC rfl fun b _=>by
 unfold frB;have:(((b:Int)) == -1)=false:=by
  rw[beq_eq_false_iff_ne];omega
 rw[this];simp
theorem aBV{q:Nat}(h1:g.cur=f.cur)(h2:g.com=f.com)(hq:q<f.cur.length):mD f q=if aF (takeAt g q d)=0 then -1 else(aF (takeAt g q d):Int):=aAC (by simp[takeAt,h1]) fun b hb=>by
 have e1:cu (takeAt g q d) b=if q=b then 1 else cu f b:=by
  show(g.cur.set q 1).getD b 0=_
  rw[h1,eL];by_cases e:q=b
  ·rw[if_pos ⟨e,hq⟩,if_pos e]
  ·rw[if_neg (fun x=>e x.1),if_neg e];rfl
 have e2:co (takeAt g q d) b=co f b:=by show g.com.getD b 0=_;rw[h2];rfl
 unfold frB;rw[e1,e2];by_cases e:q=b
 ·subst e;simp
 ·have:(((b:Int)) ==(q:Int))=false:=by rw[beq_eq_false_iff_ne];omega
  rw[this,if_neg e];simp
def iL(c:List Int):Nat→Nat
 | 0=>0
 | k+1=>iL c k+if 0<c.getD k 0 then 1 else 0
theorem sR(h:IC f):iL f.cur f.cur.length=fG f.nodes f.cur.length:=by
 have aux:∀k,k≤f.cur.length→iL f.cur k=cQ k fun x=>if(f.nodes x).isSome then 1 else 0:=by
  intro k;induction k with
  | zero=>intro _;rfl
  | succ k ih=>
   intro hk;unfold iL cQ;rw[ih (by omega)];have hp:=h.dom.pos k;have hd:=h.dom.dead k;cases e:f.nodes k with
   | none=>
    have:=hd.1 e
    unfold cu at this;rw[this];simp[e]
   | some d=>
    have:cu f k≠0:=fun q=>by have:=hd.2 q;rw[e]at this;cases this
    unfold cu at this hp;rw[if_pos (by omega)];simp[e]
 exact aux _ (nR _)
def cY(f:fZ):Nat→List Nat
 | 0=>[]
 | k+1=>cY f k++if 0<cu f k∧co f k=0 then [k]else []
def dT(f:fZ):Nat:=(cY f f.cur.length).length
theorem kP(f:fZ):∀k,(cY f k).length≤k
 | 0=>by simp[cY]
 | k+1=>by
  have:=kP f k
  unfold cY;rw[lP];split<;>simp<;>omega
theorem kQ(f:fZ):∀k x,x∈cY f k↔x<k∧0<cu f x∧co f x=0
 | 0,x=>by simp[cY]
 | k+1,x=>by
  unfold cY;rw[List.mem_append,kQ f k x];split
  ·rename_i h
   simp only[List.mem_singleton];constructor
   ·rintro(⟨a,b⟩ | rfl)
    ·exact⟨by omega,b⟩
    ·exact⟨by omega,h⟩
   ·rintro⟨a,b⟩
    by_cases e:x=k
    ·exact .inr e
    ·exact .inl ⟨by omega,b⟩
  ·rename_i h
   simp only[List.not_mem_nil,or_false];constructor
   ·rintro⟨a,b⟩;exact⟨by omega,b⟩
   ·rintro⟨a,b⟩
    refine⟨?_,b⟩;have:x≠k:=fun e=>h (e▸b);omega
theorem lZ(f:fZ):∀k,(cY f k).Nodup
 | 0=>List.nodup_nil
 | k+1=>by
  unfold cY;refine List.nodup_append.2 ⟨lZ f k,by split<;>simp,fun a ha b hb e=>?_⟩;have:=((kQ f k a).1 ha).1;split at hb
  ·simp only[List.mem_singleton]at hb;omega
  ·cases hb
theorem aIE(ye:IC f)(kf:∀t,t<f.roots.length→∃h,Ok f.nodes h (aB f t) none none)(hd:f.nodes b=some d):∃k lo hi,Ok f.nodes k b lo hi:=by
 obtain⟨ht,hh⟩:=ye.ht;obtain⟨M,hM⟩:=qV ht f.cur.length;have key:∀(m:Nat) (b:Nat) (d:Nd),M-ht b≤m→f.nodes b=some d→∃k lo hi,Ok f.nodes k b lo hi:=by
  intro m;induction m with
  | zero=>
   intro b d hm hd;have hb:=ye.lt hd;have hp:=ye.cu_pos hd;rw[ye.names hb]at hp;by_cases hr:0<rc f.roots b
   ·obtain⟨r,yl,ph⟩:=List.mem_map.1 (List.count_pos_iff.1 hr)
    obtain⟨t,Aa,Ac⟩:=List.getElem_of_mem yl;obtain⟨k,hk⟩:=kf t Aa;refine⟨k,none,none,?_⟩;have:aB f t=b:=by unfold aB;rw[gD,gE Aa,Ac];exact ph
    rw[←this];exact hk
   ·have CS:0<deg f.nodes f.cur.length b:=by omega
    obtain⟨x,hx,hc⟩:=jP CS;cases iy:f.nodes x with
    | none=>simp[iy,bZ]at hc
    | some dx=>
     rw[iy]at hc;have qa:b∈kids dx:=List.count_pos_iff.1 hc;rcases hh x dx iy with⟨q,_⟩ | ⟨_,q⟩
     ·simp[kids,q]at qa
     ·have:=q b qa;have:=hM x hx;omega
  | succ m ih=>
   intro b d hm hd;have hb:=ye.lt hd;have hp:=ye.cu_pos hd;rw[ye.names hb]at hp;by_cases hr:0<rc f.roots b
   ·obtain⟨r,yl,ph⟩:=List.mem_map.1 (List.count_pos_iff.1 hr)
    obtain⟨t,Aa,Ac⟩:=List.getElem_of_mem yl;obtain⟨k,hk⟩:=kf t Aa;refine⟨k,none,none,?_⟩;have:aB f t=b:=by unfold aB;rw[gD,gE Aa,Ac];exact ph
    rw[←this];exact hk
   ·have CS:0<deg f.nodes f.cur.length b:=by omega
    obtain⟨x,hx,hc⟩:=jP CS;cases iy:f.nodes x with
    | none=>simp[iy,bZ]at hc
    | some dx=>
     rw[iy]at hc;have qa:b∈kids dx:=List.count_pos_iff.1 hc;rcases hh x dx iy with⟨q,_⟩ | ⟨q2,q⟩
     ·simp[kids,q]at qa
     ·have h1:=q b qa
      have h2:=hM x hx;obtain⟨k,lo,hi,hk⟩:=ih x dx (by omega) iy;cases k with
      | zero=>obtain⟨es,he,_⟩:=hk;rw[iy]at he;cases he;simp at q2
      | succ k=>
       obtain⟨es,he,_,_,_,h5⟩:=hk;rw[iy]at he;cases he;rw[kids,if_pos rfl]at qa;obtain⟨e,EO,vj⟩:=List.mem_map.1 qa;obtain⟨j,hj,Jn⟩:=cN EO;have:=(h5 j hj).2;have ie:kd es j=b:=by unfold kd;rw[Jn];exact vj
       rw[ie]at this;exact⟨k,_,_,this⟩
 exact key _ b d (nR _) hd
theorem Wk.ent(w:Wk f t H)(hd:f.nodes b=some d):d.2.length≤5:=by
 obtain⟨k,lo,hi,hk⟩:=aIE w.ic (fun u hu=>by
  by_cases e:u=t
  ·subst e;exact⟨H,w.ok⟩
  ·obtain⟨h,h1,_⟩:=w.oth u hu e;exact⟨h,h1⟩) hd
 obtain⟨d',h1,_,h2,_⟩:=hk.sz_pos;rw[hd]at h1;cases h1;exact h2
theorem IC.counts(h:IC f)(jr:f.roots.length≤16)(he:∀b d,f.nodes b=some d→d.2.length≤10)(x:Nat):cu f x≤1000000:=by
 by_cases hx:x<f.cur.length
 ·rw[h.names hx]
  have h1:rc f.roots x≤16:=by
   have:=List.count_le_length (a:=x) (l:=f.roots.map fun r=>r.2.toNat)
   unfold rc;simp at *;omega
  have h2:deg f.nodes f.cur.length x≤f.cur.length*10:=oG fun y hy=>by
   cases hny:f.nodes y with
   | none=>simp[bZ]
   | some d=>
    have:=he y d hny
    have h3:=List.count_le_length (a:=x) (l:=kids d);have h4:(kids d).length≤d.2.length:=by unfold kids;split<;>simp
    simp only[bZ];omega
  have:=h.n512
  omega
 ·rw[wF (by omega)];omega
def VL(es:List E3):Prop:=∀e∈es,e.2.2≠0→e.2.1=ByteArray.empty
def VE(f:fZ):Prop:=∀b d,f.nodes b=some d→VL d.2
theorem VL.nil:VL []:=fun e h=>by cases h
theorem VL.get(h:VL es)(hi:i<es.length)(h0:(es.getD i e0).2.2≠0):(es.getD i e0).2.1=ByteArray.empty:=h _ (nJ hi) h0
theorem VL.app{b:List E3}(ha:VL a)(hb:VL b):VL (a++b):=fun e h=>by
 rcases List.mem_append.1 h with q | q
 ·exact ha e q
 ·exact hb e q
theorem VL.take(ha:VL a)(n:Nat):VL (a.take n):=fun e h=>ha e (List.mem_of_mem_take h)
theorem VL.drop(ha:VL a)(n:Nat):VL (a.drop n):=fun e h=>ha e (List.mem_of_mem_drop h)
theorem VL.one(h:e.2.2≠0→e.2.1=ByteArray.empty):VL [e]:=fun x hx=>by simp only[List.mem_singleton]at hx;subst hx;exact h
theorem VL.insE(ha:VL a)(i:Nat)(h:e.2.2≠0→e.2.1=ByteArray.empty):VL (insE a i e):=by
 unfold Fo.insE;exact(ha.take i).app fun x hx=>by
  rcases List.mem_cons.1 hx with q | q
  ·subst q;exact h
  ·exact ha.drop i x q
theorem VL.delE(ha:VL a)(i:Nat):VL (delE a i):=(ha.take i).app (ha.drop (i+1))
theorem VL.set(ha:VL a)(i:Nat)(h:e.2.2≠0→e.2.1=ByteArray.empty):VL (a.set i e):=fun x hx=>by
 rcases List.mem_or_eq_of_mem_set hx with q | q
 ·exact ha x q
 ·subst q;exact h
theorem VE.look(h:VE f)(b:Nat):VL (look f b).2:=by
 unfold Fo.look;cases e:f.nodes b with
 | none=>exact VL.nil
 | some d=>exact h b d e
theorem VE.upd(h:VE f)(hd:VL d.2)(hn:∀x d',g.nodes x=some d'→f.nodes x=some d'∨d'=d):VE g:=fun x d' hx=>by
 rcases hn x d' hx with q | q
 ·exact h x d' q
 ·rw[q];exact hd
theorem VE.sub(h:VE f)(hn:∀x d',g.nodes x=some d'→f.nodes x=some d'):VE g:=fun x d' hx=>h x d' (hn x d' hx)
theorem VE.setN(h:VE f)(b:Nat)(hd:VL d.2):VE (setN f b d):=h.upd hd fun x d' hx=>by
 have bq:Fo.upd f.nodes b (some d) x=some d':=hx;by_cases e:x=b
 ·rw[e,aD]at bq;cases bq;exact .inr rfl
 ·rw[aC _ _ e]at bq;exact .inl bq
theorem VE.takeAt(h:VE f)(b:Nat)(hd:VL d.2):VE (takeAt f b d):=VE.setN (f:=f) h b hd
theorem VE.freeB(h:VE f)(b:Nat):VE (freeB f b):=h.sub fun x d' hx=>by
 have bq:Fo.upd f.nodes b none x=some d':=hx;by_cases e:x=b
 ·rw[e,aD]at bq;cases bq
 ·rw[aC _ _ e]at bq;exact bq
theorem VE.letGo(h:VE f)(b:Nat):VE (letGo f b):=by
 unfold Fo.letGo;split
 ·exact h.freeB b
 ·exact h
theorem VL.setE(h:VL d.2)(i q:Nat)(hc:(d.2.getD i e0).2.2≠0∨(d.2.getD i e0).2.1=ByteArray.empty):VL (setE d i q).2:=by
 unfold Fo.setE;by_cases hi:i<d.2.length
 ·refine h.set i fun _=>?_
  rcases hc with hc | hc
  ·exact h.get hi hc
  ·exact hc
 ·show VL (d.2.set i _)
  rw[List.set_eq_of_length_le (by omega)];exact h
theorem VE.setL(h:VE f)(L:Loc)(q:Nat)(hc:∀b i,L=.ent b i→((Fo.look f b).2.getD i e0).2.2≠0):VE (setL f L q):=by
 cases L with
 | inl t=>exact h.sub fun _ _ q=>q
 | inr bi=>obtain⟨b,i⟩:=bi;exact h.setN b ((h.look b).setE i q (.inl (hc b i rfl)))
theorem VE.shadowAt(h:VE f)(L:Loc)(q:Nat)(hc:∀b i,L=.ent b i→b≠q∧((Fo.look f b).2.getD i e0).2.2≠0):VE (shadowAt f L q):=by
 unfold Fo.shadowAt;refine VE.letGo (VE.setL (h.takeAt q (h.look _)) L q fun b i e=>?_) _;obtain⟨h1,h2⟩:=hc b i e;have:Fo.look (Fo.takeAt f q (Fo.look f (bJ f L))) b=Fo.look f b:=by
  unfold Fo.look;show(Fo.upd f.nodes q _ b).getD _=_
  rw[aC _ _ h1]
 rw[this];exact h2
theorem VL.lowK(h:VL es)(key:ByteArray):VL (lowK es key):=by
 unfold Fo.lowK;split
 ·by_cases hn:0<es.length
  ·exact h.set 0 fun q=>h.get hn q
  ·rw[List.set_eq_of_length_le (by omega)];exact h
 ·exact h
theorem VL.putE(h:VL es)(key val:ByteArray)(h0:∀i,i<es.length→(es.getD i e0).2.2=0):VL (putE es key val):=by
 unfold Fo.putE;split
 ·rename_i hk
  have:=((dG es key).1 hk).1
  exact h.set _ fun q=>absurd (h0 _ this) q
 ·exact h.insE _ fun q=>absurd rfl q
theorem VE.inner(h:VE f)(hI:IC f)(hd:f.nodes b=some (2,es))(hi:i<es.length):es.getD i e0=(ky es i,.empty,(kd es i:Int))∧(es.getD i e0).2.2≠0:=by
 have hk:kd es i∈kids (2,es):=aP hi;obtain⟨d',gd⟩:=hI.kid_live hd hk;have h2:=hI.ge2 gd;have hp:=hI.child_pos hd hi;have hc:(es.getD i e0).2.2=(kd es i:Int):=by unfold kd ch;omega
 have h0:(es.getD i e0).2.2≠0:=by omega
 refine⟨?_,h0⟩;have:=VL.get (h b _ hd) hi h0;rw[←hc];have e1:(es.getD i e0).2.1=ByteArray.empty:=this;rw[←e1];rfl
theorem tD(hi:i<es.length)(h:es.getD i e0=e):es.set i e=es:=by
 refine List.ext_getElem? fun j=>?_;rw[List.getElem?_set];by_cases q:i=j
 ·subst q
  rw[if_pos rfl,if_pos hi,←h,gD,gE hi];rfl
 ·rw[if_neg q]
theorem tE(hI:IC f)(hV:VE f)(af:f.nodes b=some (2,es))(hi:i<es.length)(hd:f.nodes (kd es i)=some d):
  (own f (kd es i)∧shadow f (.ent b i)=some (f,kd es i)∧es.set i (ky es i,.empty,(kd es i:Int))=es) ∨
  (¬own f (kd es i)∧aF f=0∧shadow f (.ent b i)=none) ∨
  (¬own f (kd es i)∧aF f≠0∧∃g,shadow f (.ent b i)=some (g,aF f)∧g.roots=f.roots∧aX f g∧∀x d',g.nodes x=some d'→(setN (setN f (aF f) d) b (2,es.set i (ky es i,.empty,(aF f:Int)))).nodes x=some d'):=by
 have hg:bJ f (.ent b i)=kd es i:=by simp only[bJ,aE af];rfl
 obtain⟨v1,v2⟩:=hV.inner hI af hi;by_cases ho:own f (kd es i)
 ·refine .inl ⟨ho,?_,tD hi v1⟩
  unfold shadow;rw[hg,if_pos ho]
 ·by_cases hl:aF f=0
  ·refine .inr (.inl ⟨ho,hl,?_⟩)
   unfold shadow;rw[hg,if_neg ho,if_pos hl]
  ·refine .inr (.inr ⟨ho,hl,shadowAt f (.ent b i) (aF f),?_,eI f b i _,aX.shadowAt f _ _,fun x d' hx=>?_⟩)
   ·unfold shadow;rw[hg,if_neg ho,if_neg hl]
   ·obtain⟨l1,l2,l3,l4⟩:=aR hl
    have mh:b≠aF f:=fun e=>by have:=hI.cu_pos af;rw[e]at this;omega
    have ut:(setL (takeAt f (aF f) (look f (kd es i))) (.ent b i) (aF f)).nodes x=some d':=by
     unfold shadowAt at hx;rw[hg]at hx;rw[cP]at hx;split at hx
     ·by_cases e:x=kd es i
      ·rw[e,aD]at hx;cases hx
      ·rw[aC _ _ e]at hx;exact hx
     ·exact hx
    have gx:look (takeAt f (aF f) (look f (kd es i))) b=(2,es):=by
     unfold look;show(upd f.nodes (aF f) _ b).getD _=_
     rw[aC _ _ mh,af];rfl
    have LJ:setE (2,es) i (aF f)=(2,es.set i (ky es i,.empty,(aF f:Int))):=by
     unfold setE;rw[v1]
    have:(setL (takeAt f (aF f) (look f (kd es i))) (.ent b i) (aF f))=setN (takeAt f (aF f) (look f (kd es i))) b (setE (look (takeAt f (aF f) (look f (kd es i))) b) i (aF f)):=rfl
    rw[this,gx,LJ,aE hd]at ut;exact ut
theorem qG(hI:IC f)(ht:t<f.roots.length)(hd:f.nodes (aB f t)=some d):
  (own f (aB f t)∧shadow f (.root t)=some (f,aB f t)∧f.roots.set t ((f.roots.getD t (0,0)).1,(aB f t:Int))=f.roots) ∨
  (¬own f (aB f t)∧aF f=0∧shadow f (.root t)=none) ∨
  (¬own f (aB f t)∧aF f≠0∧∃g,shadow f (.root t)=some (g,aF f)∧g.roots=f.roots.set t ((f.roots.getD t (0,0)).1,(aF f:Int))∧aX f g∧∀x d',g.nodes x=some d'→(setN f (aF f) d).nodes x=some d'):=by
 have hg:bJ f (.root t)=aB f t:=rfl;by_cases ho:own f (aB f t)
 ·refine .inl ⟨ho,?_,?_⟩
  ·unfold shadow;rw[hg,if_pos ho]
  ·have h0:0≤(f.roots.getD t (0,0)).2:=(hI.rb _ (aO ht)).1
   have:((f.roots.getD t (0,0)).1,(aB f t:Int))=f.roots.getD t (0,0):=by
    unfold aB;rw[Int.toNat_of_nonneg h0]
   rw[this];refine List.ext_getElem? fun j=>?_;rw[List.getElem?_set];by_cases q:t=j
   ·subst q
    rw[if_pos rfl,if_pos ht,gD,gE ht];rfl
   ·rw[if_neg q]
 ·by_cases hl:aF f=0
  ·refine .inr (.inl ⟨ho,hl,?_⟩)
   unfold shadow;rw[hg,if_neg ho,if_pos hl]
  ·refine .inr (.inr ⟨ho,hl,shadowAt f (.root t) (aF f),?_,dH f t _,aX.shadowAt f _ _,fun x d' hx=>?_⟩)
   ·unfold shadow;rw[hg,if_neg ho,if_neg hl]
   ·have ut:(setL (takeAt f (aF f) (look f (aB f t))) (.root t) (aF f)).nodes x=some d':=by
     unfold shadowAt at hx;rw[hg]at hx;rw[cP]at hx;split at hx
     ·by_cases e:x=aB f t
      ·rw[e,aD]at hx;cases hx
      ·rw[aC _ _ e]at hx;exact hx
     ·exact hx
    have:(setL (takeAt f (aF f) (look f (aB f t))) (.root t) (aF f)).nodes=(setN f (aF f) (look f (aB f t))).nodes:=rfl
    rw[this,aE hd]at ut;exact ut
theorem VE.shadow_ent(hV:VE f)(hI:IC f)(af:f.nodes b=some (2,es))(hi:i<es.length)(hs:shadow f (.ent b i)=some (g,c)):VE g:=by
 have hg:bJ f (.ent b i)=kd es i:=by simp only[bJ,aE af];rfl
 unfold shadow at hs;rw[hg]at hs;by_cases ho:own f (kd es i)
 ·rw[if_pos ho]at hs;cases hs;exact hV
 ·rw[if_neg ho]at hs
  by_cases hl:aF f=0
  ·rw[if_pos hl]at hs;cases hs
  ·rw[if_neg hl]at hs
   cases hs
   obtain⟨l1,l2,l3,l4⟩:=aR hl;refine hV.shadowAt _ _ fun b' i' e=>?_;cases e;refine⟨fun e=>by have:=hI.cu_pos af;rw[e]at this;omega,?_⟩;rw[aE af];exact(hV.inner hI af hi).2
theorem VE.shadow_root(hV:VE f)(hs:shadow f (.root t)=some (g,c)):VE g:=by
 unfold shadow at hs;by_cases ho:own f (bJ f (.root t))
 ·rw[if_pos ho]at hs;cases hs;exact hV
 ·rw[if_neg ho]at hs
  by_cases hl:aF f=0
  ·rw[if_pos hl]at hs;cases hs
  ·rw[if_neg hl]at hs
   cases hs
   exact hV.shadowAt _ _ fun b' i' e=>by cases e
theorem VE.splitF(hV:VE f)(p:Nat)(hp:VL pes)(a c:Nat)(k:Int)(hc:VL ces)(m q:Nat)(key:ByteArray):VE (splitF f p pes a c k ces m q key):=
 ((hV.setN c (hc.take m)).takeAt q (hc.drop m)).setN p (hp.insE _ fun _=>rfl)
theorem VE.growF(hV:VE f)(t r:Nat)(k:Int)(he:VL es)(m q top:Nat)(k0 k1:ByteArray):VE (growF f t r k es m q top k0 k1):=by
 refine VE.setL (VE.takeAt (VE.takeAt (hV.setN r (he.take m)) q (he.drop m)) top ?_) (.root t) top fun b i e=>by cases e
 exact(VL.one (e:=(k0,.empty,(r:Int))) fun _=>rfl).app (VL.one (e:=(k1,.empty,(q:Int))) fun _=>rfl)
theorem pR(af:f.nodes b=some (2,es))(key:ByteArray):stepDown f b key=match shadow (setN f b (2,lowK es key)) (.ent b (bK (lowK es key) key))with
  | none=>none
  | some (g,c)=>if(look g c).2.length=5 then if aF g=0 then none else some (splitF g b (look g b).2 (bK (lowK es key) key) c (look g c).1 (look g c).2 3 (aF g) (ky (look g c).2 3),if kl key (ky (look g c).2 3)=true then c else aF g)else some (g,c):=by
 unfold stepDown;rw[aE af];rfl
theorem dB(hI:IC f)(hV:VE f)(af:f.nodes b=some (2,es))(hi:i<es.length)(hd:f.nodes (kd es i)=some d)(hs:shadow f (.ent b i)=some (g,c)):
  g.nodes c=some d∧c≠b∧(∀x,x≠c→x≠b→x≠kd es i→g.nodes x=f.nodes x)∧(∀x d',f.nodes x=some d'→x≠kd es i→x≠c)∧g.nodes b=some (2,es.set i (ky es i,.empty,(c:Int)))∧c<f.cur.length:=by
 have hg:bJ f (.ent b i)=kd es i:=by simp only[bJ,aE af];rfl
 have qa:b≠kd es i:=fun e=>hI.not_self af (by rw[e];exact aP hi);obtain⟨v1,v2⟩:=hV.inner hI af hi;unfold shadow at hs;rw[hg]at hs;by_cases ho:own f (kd es i)
 ·rw[if_pos ho]at hs;cases hs
  exact⟨hd,qa.symm,fun _ _ _ _=>rfl,fun _ _ _ q=>q,by rw[tD hi v1];exact af,hI.lt hd⟩
 ·rw[if_neg ho]at hs
  by_cases hl:aF f=0
  ·rw[if_pos hl]at hs;cases hs
  ·rw[if_neg hl]at hs
   cases hs
   obtain⟨l1,l2,l3,l4⟩:=aR hl;have live:∀x d',f.nodes x=some d'→x≠aF f:=fun x d' hx e=>by have:=hI.cu_pos hx;rw[e]at this;omega
   have mh:=live b _ af;have We:=live _ _ hd;have gx:look (takeAt f (aF f) (look f (kd es i))) b=(2,es):=by
    unfold look;show(upd f.nodes (aF f) _ b).getD _=_
    rw[aC _ _ mh,af];rfl
   have LJ:setE (2,es) i (aF f)=(2,es.set i (ky es i,.empty,(aF f:Int))):=by
    unfold setE;rw[v1]
   have hN:∀x,x≠kd es i→(shadowAt f (.ent b i) (aF f)).nodes x=upd (upd f.nodes (aF f) (some d)) b (some (2,es.set i (ky es i,.empty,(aF f:Int)))) x:=fun x hx=>by
    unfold shadowAt;rw[hg,cP];have e1:(setL (takeAt f (aF f) (look f (kd es i))) (.ent b i) (aF f)).nodes=upd (upd f.nodes (aF f) (some d)) b (some (2,es.set i (ky es i,.empty,(aF f:Int)))):=by
     show(setN (takeAt f (aF f) (look f (kd es i))) b (setE (look (takeAt f (aF f) (look f (kd es i))) b) i (aF f))).nodes=_
     rw[gx,LJ,aE hd];rfl
    rw[e1];split
    ·rw[aC _ _ hx]
    ·rfl
   refine⟨?_,mh.symm,fun x h1 h2 h3=>?_,fun x d' hx _=>live x d' hx,?_,l2⟩
   ·rw[hN _ We.symm,aC _ _ mh.symm,aD]
   ·rw[hN x h3,aC _ _ h2,aC _ _ h1]
   ·rw[hN b qa,aD]
theorem VE.moveF(hV:VE f)(p c s:Nat)(k:Int)(h1:VL ces)(h2:VL ses)(h3:VL pes):VE (moveF f p c s k ces ses pes):=((hV.setN c h1).setN s h2).setN p h3
theorem VE.mergeF(hV:VE f)(p c s:Nat)(k:Int)(h1:VL ces)(h3:VL pes):VE (mergeF f p c s k ces pes):=((hV.setN c h1).setN p h3).letGo s
theorem VE.fallF(hV:VE f)(t r c:Nat):VE (fallF f t r c):=(hV.freeB r).setL (.root t) c fun b i e=>by cases e
theorem VE.fillNext(hV:VE g)(hI:IC g)(af:g.nodes b=some (2,es))(hi:i+1<es.length)(hs:fillNext g b i c=some f'):VE f':=by
 unfold Fo.fillNext at hs;rw[aE af]at hs;simp only at hs;split at hs
 ·cases al:shadow g (.ent b (i+1))with
  | none=>rw[al]at hs;cases hs
  | some ks=>
   obtain⟨k,s⟩:=ks;rw[al]at hs;simp only[sJ]at hs;subst hs;have Dx:=hV.shadow_ent hI af hi al;obtain⟨d,hd⟩:=hI.kid_live af (aP hi);obtain⟨_,_,_,_,h5,_⟩:=dB hI hV af hi hd al;refine Dx.moveF b c s _ ((Dx.look c).app ((Dx.look s).take 1)) ((Dx.look s).drop 1) ((Dx.look b).set _ fun q=>?_);rw[aE h5,bB _ _ _ _ _ hi,if_pos rfl]
 ·simp only[sJ]at hs
  subst hs;exact hV.mergeF b c _ _ ((hV.look c).app (hV.look _)) ((hV b _ af).delE _)
theorem VE.fillLast(hV:VE g)(hI:IC g)(af:g.nodes b=some (2,es))(hi:i<es.length)(h1:1≤i)(hs:fillLast g b i c=some f'):VE f':=by
 unfold Fo.fillLast at hs;rw[aE af]at hs;simp only at hs;have hj:i-1<es.length:=by omega
 split at hs
 ·cases al:shadow g (.ent b (i-1))with
  | none=>rw[al]at hs;cases hs
  | some ks=>
   obtain⟨k,s⟩:=ks;rw[al]at hs;simp only[sJ]at hs;subst hs;have Dx:=hV.shadow_ent hI af hj al;obtain⟨d,hd⟩:=hI.kid_live af (aP hj);obtain⟨_,_,_,_,h5,_⟩:=dB hI hV af hj hd al;refine Dx.moveF b s c _ ((Dx.look s).take _) (((Dx.look s).drop _).app (Dx.look c)) ((Dx.look b).set _ fun q=>?_);rw[aE h5,bB _ _ _ _ _ hj,if_neg (by omega)];have:=(hV.inner hI af hi).1;rw[this]
 ·simp only[sJ]at hs
  subst hs;refine hV.mergeF b c _ _ ((hV.look _).app (hV.look c)) (((hV b _ af).set _ fun q=>?_).delE _);have:=(hV.inner hI af hi).1;show(es.getD i e0).2.1=_
  rw[this]
theorem rF(af:g.nodes b=some (2,es))(hc:g.nodes (kd es i)=some (k,ces))(hs:g.nodes (kd es (i+1))=some (k,ses))(h2:ses.length=2):
  fillNext g b i (kd es i)=some (mergeF g b (kd es i) (kd es (i+1)) k (ces++ses) (delE es (i+1))):=by
 unfold fillNext;rw[aE af];simp only;rw[aE hs,aE hc];exact if_neg (by simp only;omega)
theorem rE(hI:IC g)(hV:VE g)(af:g.nodes b=some (2,es))(hi:j+1<es.length)(hc:g.nodes (kd es (j+1))=some (k,ces))(hs:g.nodes (kd es j)=some (k,ses))(h2:ses.length=2):
  fillLast g b (j+1) (kd es (j+1))=some (mergeF g b (kd es (j+1)) (kd es j) k (ses++ces) (delE (es.set (j+1) (ky es j,.empty,(kd es (j+1):Int))) j)):=by
 unfold fillLast;rw[aE af];simp only[Nat.add_sub_cancel];rw[aE hs,aE hc];have:=(hV.inner hI af hi).1;rw[this];exact if_neg (by simp only;omega)
theorem tW(hI:IC g)(hV:VE g)(af:g.nodes b=some (2,es))(hi:i+1<es.length)(hc:g.nodes (kd es i)=some (k,ces))(hs:g.nodes (kd es (i+1))=some (k,ses))(nz:b≠kd es i)(iN:kd es i≠kd es (i+1))(h2:2<ses.length):
  fillNext g b i (kd es i)=(shadow g (.ent b (i+1))).map fun p=>moveF p.1 b (kd es i) p.2 k (ces++ses.take 1) (ses.drop 1) (es.set (i+1) (ky ses 1,.empty,(p.2:Int))):=by
 unfold fillNext;rw[aE af];simp only;rw[aE hs,if_pos h2];cases al:shadow g (.ent b (i+1))with
 | none=>rfl
 | some ks=>
  obtain⟨g',s⟩:=ks;obtain⟨n1,n2,n3,n4,n5,n6⟩:=dB hI hV af hi hs al;have GF:g'.nodes (kd es i)=some (k,ces):=by
   rw[n3 _ (n4 _ _ hc iN) nz.symm iN];exact hc
  simp only[Option.map_some];rw[aE n1,aE GF,aE n5];simp only;rw[List.set_set,bB _ _ _ _ _ hi,if_pos rfl]
theorem tV(hI:IC g)(hV:VE g)(af:g.nodes b=some (2,es))(hi:j+1<es.length)(hc:g.nodes (kd es (j+1))=some (k,ces))(hs:g.nodes (kd es j)=some (k,ses))(nz:b≠kd es (j+1))(iN:kd es (j+1)≠kd es j)(h2:2<ses.length):
  fillLast g b (j+1) (kd es (j+1))=(shadow g (.ent b j)).map fun p=>moveF p.1 b p.2 (kd es (j+1)) k (ses.take (ses.length-1)) (ses.drop (ses.length-1)++ces) ((es.set (j+1) (ky ses (ses.length-1),.empty,(kd es (j+1):Int))).set j (ky es j,.empty,(p.2:Int))):=by
 unfold fillLast;rw[aE af];simp only[Nat.add_sub_cancel];rw[aE hs,if_pos h2];cases al:shadow g (.ent b j)with
 | none=>rfl
 | some ks=>
  obtain⟨g',s⟩:=ks;obtain⟨n1,n2,n3,n4,n5,n6⟩:=dB hI hV af (by omega) hs al;have GF:g'.nodes (kd es (j+1))=some (k,ces):=by
   rw[n3 _ (n4 _ _ hc iN) nz.symm iN];exact hc
  simp only[Option.map_some];rw[aE n1,aE GF,aE n5];simp only;have hv:=(hV.inner hI af hi).1;have hg:(es.set j (ky es j,.empty,(s:Int))).getD (j+1) e0=es.getD (j+1) e0:=by rw[bB _ _ _ _ _ (by omega),if_neg (by omega)]
  rw[hg,hv];have:(es.set j (ky es j,.empty,(s:Int))).set (j+1) (ky ses (ses.length-1),.empty,(kd es (j+1):Int))=(es.set (j+1) (ky ses (ses.length-1),.empty,(kd es (j+1):Int))).set j (ky es j,.empty,(s:Int)):=(List.set_comm _ _ (by omega));rw[this]
theorem Wk.sibling(w:Wk g t H)(p:aN g t H P b (h+1) lo hi)(af:g.nodes b=some (2,es))(ak:i<es.length)(hj:j<es.length)(g8:i≠j)(hc:g.nodes (kd es i)=some (k,ces))(cc:cu g (kd es i)=1):
  ∃ses,g.nodes (kd es j)=some (k,ses)∧2≤ses.length∧b≠kd es i∧b≠kd es j∧kd es i≠kd es j:=by
 have fi:=aP ak;have tj:=aP hj;obtain⟨es0,q1,e2,e3,e4,e5⟩:=(p.ok w.ok).1;rw[af]at q1;cases q1;have BN:=(dK hc).1 (e5 i ak).2;obtain⟨⟨k',ses⟩,hd⟩:=w.ic.kid_live af tj;have Ao:=(dK hd).1 (e5 j hj).2;have ow:k'=k:=by
  cases h with
  | zero=>have a1:=BN.1;have a2:=Ao.1;simp only at a1 a2;omega
  | succ h=>have a1:=BN.1;have a2:=Ao.1;simp only at a1 a2;omega
 subst ow;have eS:2≤ses.length:=by have:=(e5 j hj).1;unfold sz at this;rw[hd]at this;exact this
 refine⟨ses,hd,eS,fun e=>w.ic.not_self af (e▸fi),fun e=>w.ic.not_self af (e▸tj),fun e=>?_⟩;have:=dU (w.ic.only cc af fi).2.1 ak hj e.symm;omega
theorem Wk.delRound(w:Wk f t H)(p:aN f t H P b (h+1) lo hi)(hr:cD f t H)(h3:P≠[]→3≤sz f.nodes b)(hm:Mem f.nodes (h+1) b key)(hs:Fo.stepDel f b key=some (g,c)):
  aX f g∧((2≤(look g b).2.length∧delAt (h+1) f t b key=delAt h g t c key∧Wk g t H∧∃P' lo' ak,aN g t H P' c h lo' ak∧(P'≠[]→3≤sz g.nodes c)∧cD g t H∧Mem g.nodes h c key) ∨
   ((look g b).2.length=1∧b=aB g t∧t<g.roots.length∧delAt (h+1) f t b key=delAt h (fallF g t b c) t c key∧∃H',Wk (fallF g t b c) t H'∧aN (fallF g t b c) t H' [] c h none none∧cD (fallF g t b c) t H'∧Mem (fallF g t b c).nodes h c key)):=by
 have st:=w.stepDel p hr h3 hm hs;refine⟨st.same,?_⟩;obtain⟨lo',ak,pc⟩:=st.path;have hd:delAt (h+1) f t b key=if(look g b).2.length=1 then delAt h (fallF g t (aB g t) (kd (look g b).2 0)) t c key else delAt h g t c key:=by
  conv=>lhs;unfold delAt
  rw[hs]
 rcases st.many with⟨es,n1,n2⟩ | ⟨hP,e,n1,n2⟩
 ·left
  have hl:(look g b).2.length=es.length:=by rw[aE n1]
  rw[if_neg (by omega)]at hd;have ez:cD g t H:=by
   rcases st.rt hr with q | ⟨_,e,q,_⟩
   ·exact q
   ·rw[n1]at q;cases q;simp at n2
  exact⟨by omega,hd,st.wk,_,lo',ak,pc,fun _=>st.spare,ez,st.mem⟩
 ·right
  have hl:(look g b).2.length=1:=by rw[aE n1];rfl
  have ie:kd (look g b).2 0=c:=by rw[aE n1];exact n2
  rw[if_pos hl,ie]at hd;subst hP;rcases st.up.top with⟨_,q,q'⟩ | ⟨q,_⟩
  ·subst q'
   have n1':=n1;rw[q]at n1;have ed:cu g (aB g t)=1:=by have:=(st.up.named st.wk.ic st.wk.tl b List.mem_cons_self).1;rw[q]at this;exact this
   have jg:cu g (ch e)=1:=by rw[n2];exact(pc.named st.wk.ic st.wk.tl c List.mem_cons_self).1
   obtain⟨v1,v2,v3,v4,v5,v6⟩:=st.wk.fall n1 ed jg;rw[n2]at v1 v2 v3 v4 v5 v6;rw[←q]at hd v1 v2 v4 v6;exact⟨hl,q,st.wk.tl,hd,_,v1,v2,v4,v6 key st.mem⟩
  ·cases q
theorem Wk.two(p:aN f t H P b (h+1) lo hi)(hr:cD f t H)(h3:P≠[]→3≤sz f.nodes b)(af:f.nodes b=some (2,es)):2≤es.length:=by
 by_cases hP:P=[]
 ·rcases p.top with⟨_,q,q'⟩ | ⟨q,_⟩
  ·rcases hr with hr | hr
   ·omega
   ·rw[←q]at hr;unfold sz at hr;rw[af]at hr;exact hr
  ·rw[hP]at q;cases q
 ·have:=h3 hP;unfold sz at this;rw[af]at this;simp only at this;omega
def nA(nodes:Nat→Option Nd):Nat→Nat→List Nat
 | 0,b=>(List.range (mJ nodes b).length).map fun j=>5*b+j
 | h+1,b=>(mJ nodes b).flatMap fun e=>nA nodes h (ch e)
def aCY(nodes:Nat→Option Nd)(c:Nat):ByteArray:=ky (mJ nodes (c / 5)) (c % 5)
theorem yB(hI:IC f):∀{h b:Nat} {lo hi:OB},Ok f.nodes h b lo hi→(aS f.nodes h b).map (fun p=>p.1)=(nA f.nodes h b).map (aCY f.nodes)∧∀c∈nA f.nodes h b,c<5*f.cur.length
 | 0,b,lo,hi,k=>by
  obtain⟨d,hd,_,h5,_⟩:=k.sz_pos;have hb:=hI.lt hd;have he:mJ f.nodes b=d.2:=cH hd;unfold aS nA;rw[he];constructor
  ·refine List.ext_getElem? fun j=>?_
   rw[List.getElem?_map,List.getElem?_map,List.getElem?_map,List.getElem?_map];by_cases hj:j<d.2.length
   ·rw[gE hj,List.getElem?_range hj]
    simp only[Option.map_some,sJ];unfold aCY;rw[show(5*b+j) / 5=b by omega,show(5*b+j) % 5=j by omega,he];unfold ky;rw[gD,gE hj];rfl
   ·rw[List.getElem?_eq_none (by omega),List.getElem?_eq_none (by simp;omega)];rfl
  ·intro c hc
   obtain⟨j,hj,rfl⟩:=List.mem_map.1 hc;have:=List.mem_range.1 hj;omega
 | h+1,b,lo,hi,k=>by
  obtain⟨es,h1,h2,h3,h4,h5⟩:=k;have he:mJ f.nodes b=es:=cH h1;unfold aS nA;rw[he];have key:∀e∈es,(aS f.nodes h (ch e)).map (fun p=>p.1)=(nA f.nodes h (ch e)).map (aCY f.nodes)∧∀c∈nA f.nodes h (ch e),c<5*f.cur.length:=fun e hm=>by
   obtain⟨j,hj,rfl⟩:=cN hm;exact yB hI (h5 j hj).2
  constructor
  ·rw[List.map_flatMap,List.map_flatMap]
   have aux:∀l:List E3,(∀e∈l,e∈es)→l.flatMap (fun a=>(aS f.nodes h (ch a)).map fun p=>p.1)=l.flatMap (fun a=>(nA f.nodes h (ch a)).map (aCY f.nodes)):=by
    intro l;induction l with
    | nil=>intro _;rfl
    | cons a l ih=>
     intro hl;rw[List.flatMap_cons,List.flatMap_cons,(key a (hl a List.mem_cons_self)).1,ih fun e he=>hl e (List.mem_cons_of_mem _ he)]
   exact aux es fun _ q=>q
  ·intro c hc
   obtain⟨e,EO,vj⟩:=List.mem_flatMap.1 hc;exact(key e EO).2 c vj
theorem oT(hI:IC f)(k:Ok f.nodes h b lo hi):(aS f.nodes h b).length≤2560:=by
 obtain⟨h1,h2⟩:=yB hI k;have hs:=jY k;have hn:(nA f.nodes h b).Nodup:=by
  have h3:((aS f.nodes h b).map fun p=>p.1).Pairwise fun p q=>kl p q=true:=List.pairwise_map.2 hs;rw[h1]at h3;have h4:=List.pairwise_map.1 h3;refine h4.imp fun {a b} pn e=>?_;rw[e,eA]at pn;cases pn
 have:=few (5*f.cur.length) _ hn h2
 have hl:=congrArg List.length h1;rw[List.length_map,List.length_map]at hl;have:=hI.n512;omega
theorem aAD(w:Wk f t H)(p:aN f t H P b (h+1) lo hi)(hV:VE f)(hl:loR lo key)(hs:Fo.stepDown f b key=some (g,c)):VE g:=by
 obtain⟨es,af,so,av⟩:=p.inner w;obtain⟨w1,p1,r1⟩:=w.lowKey p af key hl;have CL:VE (setN f b (2,lowK es key)):=hV.setN b (VL.lowK (hV b _ af) key);rw[pR af]at hs;generalize hK:lowK es key=es1 at *;have ew:(setN f b (2,es1)).nodes b=some (2,es1):=aD _ _ _;have ee:es1.length=es.length:=by rw[←hK];exact cI es key
 have lw:es1≠[]:=fun e=>av (List.length_eq_zero_iff.1 (by rw[←ee,e];rfl));have fe:bK es1 key<es1.length:=eB key lw;cases al:shadow (setN f b (2,es1)) (.ent b (bK es1 key))with
 | none=>rw[al]at hs;cases hs
 | some gc=>
  obtain⟨g1,c1⟩:=gc;rw[al]at hs;have sk:=CL.shadow_ent w1.ic ew fe al;simp only at hs;split at hs
  ·split at hs
   ·cases hs
   ·cases hs
    exact sk.splitF b (sk.look b) _ _ _ (sk.look c1) _ _ _
  ·cases hs;exact sk
theorem tL:∀{h:Nat} {f:fZ} (w:Wk f t H) {P:List Nat} {b:Nat} {lo hi:OB} (p:aN f t H P b h lo hi) (hl:loR lo key) (hh:hiR hi key) (h5:sz f.nodes b<5) (hV:VE f) {g:fZ} {th:Bool} (hs:Fo.putAt h f b key val=some (g,th)),VE g
 | 0,f,w,P,b,lo,hi,p,hl,hh,h5,hV,g,th,hs=>by
  obtain⟨es,af,hn,hc⟩:=p.leaf w;unfold Fo.putAt at hs;rw[aE af]at hs;simp only[sJ,Prod.mk.injEq]at hs;obtain⟨rfl,rfl⟩:=hs;exact hV.setN b (VL.putE (hV b _ af) key val hc)
 | h+1,f,w,P,b,lo,hi,p,hl,hh,h5,hV,g,th,hs=>by
  unfold Fo.putAt at hs;cases ml:Fo.stepDown f b key with
  | none=>rw[ml]at hs;cases hs
  | some gc=>
   obtain⟨g1,c1⟩:=gc;rw[ml]at hs;obtain⟨P',lo',ak,w1,p1,l1,l2,l3,l4,l5⟩:=w.stepDown p hl hh h5 ml;exact tL w1 p1 l1 l2 l3 (aAD w p hV hl ml) hs
theorem aMF(w:Wk f t H)(hV:VE f)(hs:Fo.put f t H key val=some (g,th)):VE g:=by
 unfold Fo.put at hs;cases al:shadow f (.root t)with
 | none=>rw[al]at hs;cases hs
 | some gr=>
  obtain⟨g1,r1⟩:=gr;rw[al]at hs;simp only at hs;have CL:=hV.shadow_root al;obtain⟨w1,p1,a1,a2,a3,a4,a5,a6⟩:=w.shadow_root al;obtain⟨⟨k,es⟩,hd⟩:=w1.ic.live (x:=r1) (by rw[a3];omega);have au:es.length≤5:=by
   obtain⟨d',d1,_,d2,_⟩:=((p1.ok w1.ok).1).sz_pos;rw[hd]at d1;cases d1;exact d2
  rw[aE hd]at hs;simp only at hs;by_cases hfull:es.length=5
  ·rw[if_pos hfull]at hs
   cases bm:bM g1 t r1 with
   | none=>rw[bm]at hs;cases hs
   | some kt=>
    obtain⟨g2,top⟩:=kt;rw[bm]at hs;simp only at hs;unfold bM at bm;rw[aE hd]at bm;simp only at bm;by_cases pf:aF g1=0
    ·rw[if_pos pf]at bm;cases bm
    ·rw[if_neg pf]at bm
     generalize hT:aF (takeAt (setN g1 r1 (k,es.take 3)) (aF g1) (k,es.drop 3))=tp at *;by_cases ee:tp=0
     ·rw[if_pos ee]at bm;cases bm
     ·rw[if_neg ee]at bm
      simp only[sJ,Prod.mk.injEq]at bm;obtain⟨rfl,rfl⟩:=bm;obtain⟨l1,l2,l3,l4⟩:=aR pf;obtain⟨m1,m2,m3,m4⟩:=aR (hT▸ee);rw[hT]at m1 m2 m3;have ot:∀x,cu (takeAt (setN g1 r1 (k,es.take 3)) (aF g1) (k,es.drop 3)) x=if aF g1=x then 1 else cu g1 x:=fun x=>dQ (f:=setN g1 r1 (k,es.take 3)) (k,es.drop 3) l2 x;rw[ot]at m3;have sq:tp≠aF g1:=fun e=>by rw[if_pos e.symm]at m3;omega
      rw[if_neg (Ne.symm sq)]at m3;have m2':tp<g1.cur.length:=by simpa [takeAt,setN] using m2
      subst a1;obtain⟨w2,p2,b1,b2,b3⟩:=w1.grow a3 hd (m:=3) (by omega) (by omega) l1 l2 l3 m1 m2' m3 sq;exact tL w2 p2 trivial trivial (by unfold sz;rw[b3];simp) (CL.growF _ _ _ (CL _ _ hd) _ _ _ _ _) hs
  ·rw[if_neg hfull]at hs
   exact tL w1 p1 trivial trivial (by unfold sz;rw[hd];simp only;omega) CL hs
theorem aBZ(w:Wk f t H)(p:aN f t H P b (h+1) lo hi)(hV:VE f)(h2:2≤sz f.nodes b)(hs:Fo.stepDel f b key=some (g,c)):VE g:=by
 obtain⟨es,af,so,av⟩:=p.inner w;have PM:2≤es.length:=by unfold sz at h2;rw[af]at h2;exact h2
 have fe:bK es key<es.length:=eB key av;unfold Fo.stepDel at hs;rw[aE af]at hs;simp only at hs;cases al:shadow f (.ent b (bK es key))with
 | none=>rw[al]at hs;cases hs
 | some gc=>
  obtain⟨g1,c1⟩:=gc;rw[al]at hs;have sk:=hV.shadow_ent w.ic af fe al;obtain⟨w1,p1,p2,⟨es',n1,n2,n3,n4⟩,_⟩:=w.shadow_ent p af fe al;simp only at hs;rw[aE n1]at hs;simp only at hs;split at hs
  ·cases hs;exact sk
  ·split at hs
   ·rename_i hn
    cases hf:fillNext g1 b (bK es key) c1 with
    | none=>rw[hf]at hs;cases hs
    | some k=>rw[hf]at hs;cases hs;exact sk.fillNext w1.ic n1 hn hf
   ·rename_i hn
    cases hf:fillLast g1 b (bK es key) c1 with
    | none=>rw[hf]at hs;cases hs
    | some k=>rw[hf]at hs;cases hs;exact sk.fillLast w1.ic n1 (by omega) (by omega) hf
theorem tI:∀{h H:Nat} {f:fZ} (w:Wk f t H) {P:List Nat} {b:Nat} {lo hi:OB} (p:aN f t H P b h lo hi) (h3:P≠[]→3≤sz f.nodes b) (hr:cD f t H) (hm:Mem f.nodes h b key) (hV:VE f) {g:fZ} (hs:Fo.delAt h f t b key=some g),VE g
 | 0,H,f,w,P,b,lo,hi,p,h3,hr,hm,hV,g,hs=>by
  obtain⟨es,af,hn,hc⟩:=p.leaf w;unfold Fo.delAt at hs;rw[aE af]at hs;simp only[sJ]at hs;subst hs;exact hV.setN b (VL.delE (hV b _ af) _)
 | h+1,H,f,w,P,b,lo,hi,p,h3,hr,hm,hV,g,hs=>by
  unfold Fo.delAt at hs;cases ml:Fo.stepDel f b key with
  | none=>rw[ml]at hs;cases hs
  | some gc=>
   obtain⟨g1,c⟩:=gc;rw[ml]at hs;simp only at hs;have h2:2≤sz f.nodes b:=by
    by_cases hP:P=[]
    ·rcases p.top with⟨_,q,q'⟩ | ⟨q,_⟩
     ·rcases hr with hr | hr
      ·omega
      ·rw[←q]at hr;exact hr
     ·subst hP;cases q
    ·have:=h3 hP;omega
   have CL:=aBZ w p hV h2 ml;have st:=w.stepDel p hr h3 hm ml;obtain⟨lo',ak,pc⟩:=st.path;rcases st.many with⟨es,n1,n2⟩ | ⟨hP,e,n1,n2⟩
   ·rw[aE n1]at hs
    simp only at hs
    rw[if_neg (by omega)]at hs;have ez:cD g1 t H:=by
     rcases st.rt hr with q | ⟨_,e,q,_⟩
     ·exact q
     ·rw[n1]at q;cases q;simp at n2
    exact tI st.wk pc (fun _=>st.spare) ez st.mem CL hs
   ·rw[aE n1]at hs
    rw[if_pos (show([e]:List E3).length=1 from rfl)]at hs;have ie:kd [e] 0=ch e:=rfl;rw[ie]at hs;subst hP;rcases st.up.top with⟨_,q,q'⟩ | ⟨q,_⟩
    ·subst q'
     rw[q]at n1;have ed:cu g1 (aB g1 t)=1:=by have:=(st.up.named st.wk.ic st.wk.tl b List.mem_cons_self).1;rw[q]at this;exact this
     have jg:cu g1 (ch e)=1:=by rw[n2];exact(pc.named st.wk.ic st.wk.tl c List.mem_cons_self).1
     obtain⟨v1,v2,v3,v4,v5,v6⟩:=st.wk.fall n1 ed jg;rw[n2]at v1 v2 v3 v4 v5 v6 hs;exact tI v1 v2 (fun q=>absurd rfl q) v4 (v6 key st.mem) (CL.fallF _ _ _) hs
    ·cases q
theorem qF(w:Wk f t H)(hm:Mem f.nodes H (aB f t) key){g1:fZ}{r:Nat}(al:shadow f (.root t)=some (g1,r)):Mem g1.nodes H r key:=by
 obtain⟨w1,p1,a1,a2,a3,a4,a5,a6⟩:=w.shadow_root al;unfold shadow at al;have hg:bJ f (.root t)=aB f t:=rfl;rw[hg]at al;by_cases ho:own f (aB f t)
 ·rw[if_pos ho]at al;cases al;exact hm
 ·rw[if_neg ho]at al
  by_cases hl:aF f=0
  ·rw[if_pos hl]at al;cases al
  ·rw[if_neg hl]at al
   simp only[sJ,Prod.mk.injEq]at al;obtain⟨iv,yl⟩:=al;obtain⟨l1,l2,l3,_⟩:=aR hl;obtain⟨d,hd⟩:=w.ic.root_live (aO w.tl);have gd:f.nodes (aB f t)=some d:=hd;obtain⟨I1,I2,_⟩:=w.ic.shadow (L:=.root t) w.tl rfl hd l1 l2 l3;have dh:f.nodes (aF f)=none:=(w.ic.dom.dead _).2 l3;have vu:g1.nodes=if cu f (aB f t)=1 then upd (upd f.nodes (aF f) (some d)) (aB f t) none else upd f.nodes (aF f) (some d):=by rw[←iv];exact I2
   let U:Nat→Prop:=fun x=>(∃d,f.nodes x=some d)∧(cu f (aB f t)=1→x≠aB f t)
   have lk:∀x d,U x→f.nodes x=some d→∀c∈kids d,U c:=fun x d' _ hx c bo=>
    ⟨w.ic.kid_live hx bo,fun h1 e=>(w.ic.onlyRoot (aO w.tl) h1).2 x d' hx (by have:c=(f.roots.getD t (0,0)).2.toNat:=e;rw[←this];exact bo)⟩
   have gj:∀x,U x→g1.nodes x=f.nodes x:=fun x ⟨⟨d',hx⟩,h1⟩=>by
    have Bx:x≠aF f:=fun e=>by rw[e,dh]at hx;cases hx
    rw[vu];split
    ·rename_i ot;rw[aC _ _ (h1 ot),aC _ _ Bx]
    ·rw[aC _ _ Bx]
   have nr:g1.nodes r=some d:=by rw[a2];exact gd
   rw[bO nr];rw[bO gd]at hm;obtain⟨k,des⟩:=d;exact hm.more (fun e he=>he) fun c bo h' g9=>Mem.frame lk gj _ _ ⟨w.ic.kid_live gd bo,fun _ e=>w.ic.not_self gd (e▸bo)⟩ g9
theorem aFJ(w:Wk f t H)(hr:cD f t H)(hm:Mem f.nodes H (aB f t) key)(hV:VE f)(hs:bV f t H key=some g):VE g:=by
 unfold bV at hs;cases al:shadow f (.root t)with
 | none=>rw[al]at hs;cases hs
 | some gr=>
  obtain⟨g1,r⟩:=gr;rw[al]at hs;simp only at hs;obtain⟨w1,p1,a1,a2,a3,a4,a5,a6⟩:=w.shadow_root al;exact tI w1 p1 (fun q=>absurd rfl q) (a5 hr) (qF w hm al) (hV.shadow_root al) hs
theorem aIO(hV:VE f)(t:Nat):VE (cU f t):=hV.sub fun _ _ q=>q
theorem aKR(h:Inv f)(hV:VE f)(ht:t<f.roots.length)(h1:1<f.roots.length)(hk:Ok f.nodes H (aB f t) none none):VE (drop f t H).1:=hV.sub fun x d q=>by
 obtain⟨_,_,_,_,_,_,_,_,_,hn⟩:=wJ h ht h1 hk;rcases hn x with e | e
 ·rw[←e];exact q
 ·rw[e]at q;cases q
theorem aFK(hV:VE f)(p:List Int):VE (dM f p):=hV.sub fun _ _ q=>q
theorem tK(n:Nat):VE (aH n):=fun x d hx=>by
 have bq:(if x=2 then some ((1:Int),([]:List E3))else none)=some d:=hx;split at bq
 ·cases bq;exact VL.nil
 ·cases bq
theorem zF{nodes:Nat→Option Nd}:∀{h b:Nat} {lo hi:OB},Ok nodes h b lo hi→Mem nodes h b key→∃v,find nodes h b key=some v
 | 0,b,lo,hi,hk,hm=>by
  obtain⟨es,e1,e2,_⟩:=hk;obtain⟨es',f1,j,hj,f2⟩:=hm;rw[e1]at f1;cases f1;refine⟨(es.getD (cLt es key) e0).2.1,?_⟩;simp only[find,cH e1];rw[if_pos (jW e2.srt hj f2).1]
 | h+1,b,lo,hi,hk,hm=>by
  have qr:=hk;obtain⟨es,e1,e2,e3,e4,e5⟩:=hk;have fe:=eB key e3;obtain⟨v,hv⟩:=zF (e5 _ fe).2 (Mem.at e1 qr hm);exact⟨v,by simp only[find,cH e1];exact hv⟩
theorem aER(w:Wk f t H)(hs:put f t H key val=some (g,th)):th=(find f.nodes H (aB f t) key).isSome:=by
 have h:=aES w hs;cases hf:find f.nodes H (aB f t) key with
 | none=>
  cases th with
  | false=>rfl
  | true=>
   obtain⟨v,hv⟩:=zF w.ok (h.1 rfl);rw[hf]at hv;cases hv
 | some v=>rw[h.2 (kS w.ok hf)];rfl
theorem aDV{L:List Nat}(hn:L.Nodup)(h:∀x,x∈L↔x<f.cur.length∧0<cu f x∧co f x=0):L.length=dT f:=
 ((List.perm_ext_iff_of_nodup hn (lZ f _)).2 fun x=>by rw[h x,kQ]).length_eq
theorem uU(f:fZ):dT f≤f.cur.length:=kP f _
abbrev VW:=Int×Int×Int×Int×Int
def aDJ(f:fZ)(b:Nat)(dp:Int):VW:=((b:Int),dp,(look f b).1,((look f b).2.length:Int),cu f b)
def iM(f:fZ):Nat→Nat→Int→List VW
 | 0,b,dp=>[aDJ f b dp]
 | h+1,b,dp=>aDJ f b dp ::(look f b).2.flatMap fun e=>iM f h (ch e) (dp+1)
theorem fT(h:f.nodes b=some d):look f b=d:=by unfold look;rw[h];rfl
theorem aGP{β:Type}(l:List E3)(V:E3→List α)(I:E3→List β)(h:∀e∈l,(V e).length+1≤2*(I e).length):(l.flatMap V).length+l.length≤2*(l.flatMap I).length:=by
 induction l with
 | nil=>simp
 | cons a l ih=>
  have h1:=h a List.mem_cons_self;have h2:=ih fun e he=>h e (List.mem_cons_of_mem _ he);rw[List.flatMap_cons,List.flatMap_cons,lP,lP,List.length_cons];omega
theorem vT:∀{h b:Nat} {lo hi:OB},Ok f.nodes h b lo hi→∀dp:Int,2≤sz f.nodes b→(iM f h b dp).length+1≤2*(aS f.nodes h b).length
 | 0,b,lo,hi,k,dp,hz=>by
  obtain⟨es,h1,_⟩:=k;have:sz f.nodes b=es.length:=by unfold sz;rw[h1]
  simp only[iM,aS,cH h1,List.length_map,List.length_singleton];omega
 | h+1,b,lo,hi,k,dp,hz=>by
  obtain⟨es,h1,h2,h3,h4,h5⟩:=k;have bd:sz f.nodes b=es.length:=by unfold sz;rw[h1]
  have hf:=aGP es (fun e=>iM f h (ch e) (dp+1)) (fun e=>aS f.nodes h (ch e)) fun e he=>by
   obtain⟨j,hj,rfl⟩:=cN he;exact vT (h5 j hj).2 (dp+1) (h5 j hj).1
  simp only[iM,aS,cH h1,fT h1,List.length_cons];omega
theorem aFL(hI:IC f)(k:Ok f.nodes h b lo hi)(dp:Int)(hz:h=0∨2≤sz f.nodes b):(iM f h b dp).length≤5120:=by
 rcases hz with e | e
 ·subst e;simp[iM]
 ·have:=vT k dp e
  have:=oT hI k
  omega
theorem mK{f g:E3→List α}:∀{l:List E3},(∀e∈l,f e=g e)→l.flatMap f=l.flatMap g
 | [],_=>rfl
 | a :: l,h=>by
  rw[List.flatMap_cons,List.flatMap_cons,h a List.mem_cons_self,mK fun e he=>h e (List.mem_cons_of_mem _ he)]
def tM(f:fZ):Nat→Nat→Int→List VW
 | 0,b,dp=>[aDJ f b dp]
 | n+1,b,dp=>aDJ f b dp :: if(look f b).1=2 then(look f b).2.flatMap fun e=>tM f n (ch e) (dp+1)else []
theorem vS:∀{h b:Nat} {lo hi:OB},Ok f.nodes h b lo hi→∀(n:Nat) (dp:Int),h≤n→tM f n b dp=iM f h b dp
 | 0,b,lo,hi,k,n,dp,hn=>by
  obtain⟨es,h1,_⟩:=k;cases n with
  | zero=>rfl
  | succ n=>simp[tM,iM,fT h1]
 | h+1,b,lo,hi,k,n,dp,hn=>by
  obtain⟨es,h1,h2,h3,h4,h5⟩:=k;cases n with
  | zero=>omega
  | succ n=>
   simp only[tM,iM,fT h1,if_true];refine congrArg _ (mK fun e he=>?_);obtain⟨j,hj,rfl⟩:=cN he;exact vS (h5 j hj).2 n (dp+1) (by omega)
theorem tN:∀{h b:Nat} {lo hi:OB},Ok f.nodes h b lo hi→∀dp:Int,h+1≤(iM f h b dp).length
 | 0,b,lo,hi,k,dp=>by simp[iM]
 | h+1,b,lo,hi,k,dp=>by
  obtain⟨es,h1,h2,h3,h4,h5⟩:=k;cases es with
  | nil=>exact absurd rfl h3
  | cons a es=>
   have:=tN (h5 0 (by simp)).2 (dp+1)
   simp only[iM,fT h1,List.length_cons,List.flatMap_cons,lP];have e:kd (a :: es) 0=ch a:=rfl;rw[e]at this;omega
def shp(f:fZ)(b:Nat):List VW:=tM f 6000 b 0
theorem aMC(hI:IC f)(k:Ok f.nodes h b none none)(hz:h=0∨2≤sz f.nodes b):shp f b=iM f h b 0∧h≤5120∧(iM f h b 0).length≤5120:=by
 have h1:=aFL hI k 0 hz;have h2:=tN k 0;exact⟨vS k 6000 0 (by omega),by omega,h1⟩
def oS(f:fZ):Nat→Nat→List (ByteArray×ByteArray)
 | 0,b=>(look f b).2.map fun e=>(e.1,e.2.1)
 | n+1,b=>if(look f b).1=2 then(look f b).2.flatMap fun e=>oS f n (ch e)else(look f b).2.map fun e=>(e.1,e.2.1)
theorem vA:∀{h b:Nat} {lo hi:OB},Ok f.nodes h b lo hi→∀n:Nat,h≤n→oS f n b=aS f.nodes h b
 | 0,b,lo,hi,k,n,hn=>by
  obtain⟨es,h1,_⟩:=k;cases n with
  | zero=>simp[oS,aS,cH h1,fT h1]
  | succ n=>simp[oS,aS,cH h1,fT h1]
 | h+1,b,lo,hi,k,n,hn=>by
  obtain⟨es,h1,h2,h3,h4,h5⟩:=k;cases n with
  | zero=>omega
  | succ n=>
   simp only[oS,aS,cH h1,fT h1,if_true];refine mK fun e he=>?_;obtain⟨j,hj,rfl⟩:=cN he;exact vA (h5 j hj).2 n (by omega)
