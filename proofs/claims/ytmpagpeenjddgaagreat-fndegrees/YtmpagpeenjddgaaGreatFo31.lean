import Derived.Test.YtmpagpeenjddgaaGreatFo24
set_option linter.all false
namespace Go.Proofs.YtmpagpeenjddgaaGreat.Fo
section
variable {f : fZ} {s : Nat -> Nat} {c : List Int} {e : Nat -> Bool} {k : Nat} {Q : List Nat}
theorem J.first{d:Nd}(h:IC f)(b:J f s c e (k :: Q))(hd:f.n k=some d)(n:c.getD k 0=0):J f s (eW c k) (fun y=>e y || y == k) (kids d++Q):=by
 have i:=h.lt hd;have m:k<c.length:=by rw[b.len];exact i
 have g:=fun x=>iR c k x m;have l:∀x,((k :: Q).count x:Nat)=Q.count x+one k x:=fun x=>by simp only[List.count_cons,beq_iff_eq,one]
 have j:e k=false:=by
  cases q:e k with
  | false=>rfl
  | true=>have:=(b.vis k i).1 q;omega
 refine⟨by rw[gM];exact b.len,fun x a=>?_,fun x=>?_,fun x a=>?_,fun x a=>?_⟩
 ·have:=b.eq x a
  rw[l]at this;rw[g,rS i hd j,List.count_append];omega
 ·rw[g];have:=b.pos x;omega
 ·rw[g]
  by_cases q:x=k
  ·subst q;rw[bV];have o:=b.pos x;exact⟨fun _=>by omega,fun _=>by simp⟩
  ·have:(x == k)=false:=by simp[q]
   rw[this,Bool.or_false,fA (Ne.symm q)];have:=b.vis x a;simpa using this
 ·simp only[Bool.or_eq_true,beq_iff_eq]at a
  rcases a with a | a
  ·exact b.live x a
  ·subst a;exact⟨d,hd⟩
theorem J.more(a:J f s c e (k :: Q))(j:k<f.c.length)(l:¬c.getD k 0=0):J f s (eW c k) e Q:=by
 have i:k<c.length:=by rw[a.len];exact j
 have b:=fun x=>iR c k x i;have h:∀x,((k :: Q).count x:Nat)=Q.count x+one k x:=fun x=>by simp only[List.count_cons,beq_iff_eq,one]
 refine⟨by rw[gM];exact a.len,fun x d=>?_,fun x=>?_,fun x d=>?_,a.live⟩
 ·have:=a.eq x d
  rw[h]at this;rw[b];omega
 ·rw[b];have:=a.pos x;omega
 ·rw[b]
  have g:=a.vis x d;by_cases q:k=x
  ·subst q;rw[bV]
   have:=a.pos k
   constructor
   ·intro _;omega
   ·intro _;exact g.2 (by omega)
  ·rw[fA q];simpa using g
theorem aLO(a:Nat->Option Nd)(n:Nat)(e:Nat->Bool)(x:Nat):qO a n e x<=deg a n x:=by
 unfold qO deg;induction n with
 | zero=>exact nR _
 | succ n ih=>
  simp only[cX];have:(if e n=true then(cF (a n)).count x else 0)<=(cF (a n)).count x:=by split<;>omega
  omega
theorem J.le{P:List Nat}(h:IC f)(a:J f (rc f.r) c e P)(x:Nat):0<=c.getD x 0/\c.getD x 0<=cu f x:=by
 refine⟨a.pos x,?_⟩;by_cases b:x<f.c.length
 ·have d:=a.eq x b
  have g:=h.names b;have i:=aLO f.n f.c.length e x;omega
 ·rw[wR (by omega),gD,List.getElem?_eq_none (by rw[a.len];omega)];simp
theorem J.start(f:fZ):J f (rc f.r) (List.replicate f.c.length 0) (fun _=>false) (f.r.map fun r=>r.2.toNat):=by
 refine⟨by simp,fun x a=>?_,fun x=>?_,fun x a=>?_,fun x a=>by simp at a⟩
 ·rw[vG,eK];unfold rc;omega
 ·rw[eK];omega
 ·rw[eK];simp
end
end Go.Proofs.YtmpagpeenjddgaaGreat.Fo
namespace Go.Proofs.YtmpagpeenjddgaaGreat.Fo
variable{th:Bool}{key val:ByteArray}{e:E3}{k:Int}{a ces es pes ses:List E3}{P:List Nat}{H b c h i j t:Nat}{d:Nd}{hi lo:OB}{α:Type}{f f' g:fZ}
def nV(es:List E3)(key:ByteArray):Nat->Nat
 | 0=>0
 | k+1=>if kl key (ky es k)=true then nV es key k else k
theorem vK(b:Srt es)(key:ByteArray):∀k,k<=es.length->nV es key k=min k (cLe es key)-1
 | 0,_=>by simp[nV]
 | k+1,h=>by
  have ih:=vK b key k (by omega);have a:=gC b key (j:=k) (by omega);unfold nV;cases e:kl key (ky es k)with
  | true=>
   have:¬k<cLe es key:=fun q=>by rw[a.2 q]at e;cases e
   rw[if_pos rfl,ih];omega
  | false=>
   have:=a.1 e
   rw[if_neg (by simp)];omega
theorem sH(a:Srt es)(key:ByteArray):nV es key es.length=bL es key:=by
 rw[vK a key _ (nR _)];have:=wK es key;unfold bL;rw[show min es.length (cLe es key)=cLe es key by omega]
def rI(es:List E3)(key:ByteArray):Nat->Nat
 | 0=>0
 | k+1=>if kl (ky es k) key=true then k+1 else rI es key k
theorem yF(b:Srt es)(key:ByteArray):∀k,k<=es.length->rI es key k=min k (cLt es key)
 | 0,_=>by simp[rI]
 | k+1,h=>by
  have ih:=yF b key k (by omega);have a:=gZ b key (j:=k) (by omega);unfold rI;cases e:kl (ky es k) key with
  | true=>
   have:=a.1 e
   rw[if_pos rfl];omega
  | false=>
   have:¬k<cLt es key:=fun q=>by rw[a.2 q]at e;cases e
   rw[if_neg (by simp),ih];omega
theorem yD(a:Srt es)(key:ByteArray):rI es key es.length=cLt es key:=by
 rw[yF a key _ (nR _)];have:=kT es key;omega
theorem aFO(h:∀j,j<es.length->ky es j≠key):fM es key=false:=by
 cases e:fM es key with
 | false=>rfl
 | true=>obtain⟨a,b⟩:=(dK es key).1 e;exact absurd b (h _ a)
theorem aJX(f:Srt es)(b:∀i,i<es.length->(es.getD i e0).2.2=0)(a:i<es.length)(e:ky es i=key):putE es key val=es.set i (key,val,0):=by
 obtain⟨c,d⟩:=jW f a e;unfold putE;rw[if_pos c,d,b i a];have:(es.getD i e0).1=key:=e;rw[this]
theorem aMM(a:Srt es)(h:∀j,j<es.length->ky es j≠key):putE es key val=insE es (rI es key es.length) (key,val,0):=by
 unfold putE;rw[aFO h,yD a];simp
def frB(f:fZ)(g9:Int)(b:Nat):Bool:=decide (2<=b) && (cu f b == 0) && (co f b == 0) && !((b:Int) == g9)
def mN(f:fZ)(g9:Int):Int:=match (List.range f.c.length).find? (frB f g9)with
 | none=>-1
 | some b=>b
theorem aAV{g9:Int}(j:g.c.length=f.c.length)(i:∀b,b<f.c.length->frB f g9 b=(decide (2<=b) && (cu g b == 0) && (co g b == 0))):mN f g9=if aG g=0 then -1 else(aG g:Int):=by
 unfold mN aG;rw[j];have:(List.range f.c.length).find? (frB f g9)=(List.range f.c.length).find? (fun b=>decide (2<=b) && (cu g b == 0) && (co g b == 0)):=by
  have c:∀l:List Nat,(∀b∈l,b<f.c.length)->l.find? (frB f g9)=l.find? (fun b=>decide (2<=b) && (cu g b == 0) && (co g b == 0)):=by
   intro l;induction l with
   | nil=>intro _;rfl
   | cons a l ih=>
    intro h;rw[List.find?_cons,List.find?_cons,i a (h a List.mem_cons_self),ih fun b q=>h b (List.mem_cons_of_mem _ q)]
  exact c _ fun b h=>List.mem_range.1 h
 rw[this];cases e:(List.range f.c.length).find? (fun b=>decide (2<=b) && (cu g b == 0) && (co g b == 0))with
 | none=>simp
 | some b=>
  have d:=List.find?_some e;simp only[Bool.and_eq_true,decide_eq_true_eq]at d;have:b≠0:=by omega
  simp[this]
theorem nD(f:fZ):mN f (-1)=if aG f=0 then -1 else(aG f:Int):=aAV rfl fun b _=>by
 unfold frB;have:(((b:Int)) == -1)=false:=by
  rw[beq_eq_false_iff_ne];omega
 rw[this];simp
theorem aCW{q:Nat}(h1:g.c=f.c)(h2:g.m=f.m)(h:q<f.c.length):mN f q=if aG (takeAt g q d)=0 then -1 else(aG (takeAt g q d):Int):=aAV (by simp[takeAt,h1]) fun b i=>by
 have a:cu (takeAt g q d) b=if q=b then 1 else cu f b:=by
  show(g.c.set q 1).getD b 0=_
  rw[h1,dI];by_cases e:q=b
  ·rw[if_pos ⟨e,h⟩,if_pos e]
  ·rw[if_neg (fun x=>e x.1),if_neg e];rfl
 have c:co (takeAt g q d) b=co f b:=by show g.m.getD b 0=_;rw[h2];rfl
 unfold frB;rw[a,c];by_cases e:q=b
 ·subst e;simp
 ·have:(((b:Int)) ==(q:Int))=false:=by rw[beq_eq_false_iff_ne];omega
  rw[this,if_neg e];simp
def iU(c:List Int):Nat->Nat
 | 0=>0
 | k+1=>iU c k+if 0<c.getD k 0 then 1 else 0
theorem tN(h:IC f):iU f.c f.c.length=fO f.n f.c.length:=by
 have a:∀k,k<=f.c.length->iU f.c k=cX k fun x=>if(f.n x).isSome then 1 else 0:=by
  intro k;induction k with
  | zero=>intro _;rfl
  | succ k ih=>
   intro g;unfold iU cX;rw[ih (by omega)];have c:=h.bb.pos k;have b:=h.bb.dead k;cases e:f.n k with
   | none=>
    have:=b.1 e
    unfold cu at this;rw[this];simp[e]
   | some d=>
    have:cu f k≠0:=fun q=>by have:=b.2 q;rw[e]at this;cases this
    unfold cu at this c;rw[if_pos (by omega)];simp[e]
 exact a _ (nR _)
def dE(f:fZ):Nat->List Nat
 | 0=>[]
 | k+1=>dE f k++if 0<cu f k/\co f k=0 then [k]else []
def dZ(f:fZ):Nat:=(dE f f.c.length).length
theorem kW(f:fZ):∀k,(dE f k).length<=k
 | 0=>by simp[dE]
 | k+1=>by
  have:=kW f k
  unfold dE;rw[lP];split<;>simp<;>omega
theorem kX(f:fZ):∀k x,x∈dE f k↔x<k/\0<cu f x/\co f x=0
 | 0,x=>by simp[dE]
 | k+1,x=>by
  unfold dE;rw[List.mem_append,kX f k x];split
  ·rename_i h
   simp only[List.mem_singleton];constructor
   ·rintro(⟨a,b⟩ | rfl)
    ·exact⟨by omega,b⟩
    ·exact⟨by omega,h⟩
   ·rintro⟨a,b⟩
    by_cases e:x=k
    ·exact .inr e
    ·exact .inl ⟨by omega,b⟩
  ·rename_i h
   simp only[List.not_mem_nil,or_false];constructor
   ·rintro⟨a,b⟩;exact⟨by omega,b⟩
   ·rintro⟨a,b⟩
    refine⟨?_,b⟩;have:x≠k:=fun e=>h (e▸b);omega
theorem mJ(f:fZ):∀k,(dE f k).Nodup
 | 0=>List.nodup_nil
 | k+1=>by
  unfold dE;refine List.nodup_append.2 ⟨mJ f k,by split<;>simp,fun a d b c e=>?_⟩;have:=((kX f k a).1 d).1;split at c
  ·simp only[List.mem_singleton]at c;omega
  ·cases c
theorem aKM(i:IC f)(E:∀t,t<f.r.length->∃h,Ok f.n h (aB f t) none none)(hd:f.n b=some d):∃k lo hi,Ok f.n k b lo hi:=by
 obtain⟨ht,D⟩:=i.ht;obtain⟨M,C⟩:=rK ht f.c.length;have key:∀(m:Nat) (b:Nat) (d:Nd),M-ht b<=m->f.n b=some d->∃k lo hi,Ok f.n k b lo hi:=by
  intro m;induction m with
  | zero=>
   intro b d J hd;have w:=i.lt hd;have y:=i.a7 hd;rw[i.names w]at y;by_cases z:0<rc f.r b
   ·obtain⟨r,s,B⟩:=List.mem_map.1 (List.count_pos_iff.1 z)
    obtain⟨t,o,u⟩:=List.getElem_of_mem s;obtain⟨k,n⟩:=E t o;refine⟨k,none,none,?_⟩;have:aB f t=b:=by unfold aB;rw[gD,gE o,u];exact B
    rw[<-this];exact n
   ·have v:0<deg f.n f.c.length b:=by omega
    obtain⟨x,A,c⟩:=jQ v;cases a:f.n x with
    | none=>simp[a,cF]at c
    | some l=>
     rw[a]at c;have g:b∈kids l:=List.count_pos_iff.1 c;rcases D x l a with⟨q,_⟩ | ⟨_,q⟩
     ·simp[kids,q]at g
     ·have:=q b g;have:=C x A;omega
  | succ m ih=>
   intro b d J hd;have w:=i.lt hd;have y:=i.a7 hd;rw[i.names w]at y;by_cases z:0<rc f.r b
   ·obtain⟨r,s,B⟩:=List.mem_map.1 (List.count_pos_iff.1 z)
    obtain⟨t,o,u⟩:=List.getElem_of_mem s;obtain⟨k,n⟩:=E t o;refine⟨k,none,none,?_⟩;have:aB f t=b:=by unfold aB;rw[gD,gE o,u];exact B
    rw[<-this];exact n
   ·have v:0<deg f.n f.c.length b:=by omega
    obtain⟨x,A,c⟩:=jQ v;cases a:f.n x with
    | none=>simp[a,cF]at c
    | some l=>
     rw[a]at c;have g:b∈kids l:=List.count_pos_iff.1 c;rcases D x l a with⟨q,_⟩ | ⟨L,q⟩
     ·simp[kids,q]at g
     ·have O:=q b g
      have P:=C x A;obtain⟨k,lo,hi,n⟩:=ih x l (by omega) a;cases k with
      | zero=>obtain⟨es,p,_⟩:=n;rw[a]at p;cases p;simp at L
      | succ k=>
       obtain⟨es,p,_,_,_,H⟩:=n;rw[a]at p;cases p;rw[kids,if_pos rfl]at g;obtain⟨e,F,N⟩:=List.mem_map.1 g;obtain⟨j,I,G⟩:=cH F;have:=(H j I).2;have K:kd es j=b:=by unfold kd;rw[G];exact N
       rw[K]at this;exact⟨k,_,_,this⟩
 exact key _ b d (nR _) hd
theorem Wk.ai(w:Wk f t H)(hd:f.n b=some d):d.2.length<=5:=by
 obtain⟨k,l,j,g⟩:=aKM w.ic (fun u i=>by
  by_cases e:u=t
  ·subst e;exact⟨H,w.ok⟩
  ·obtain⟨h,a,_⟩:=w.ee u i e;exact⟨h,a⟩) hd
 obtain⟨d',a,_,c,_⟩:=g.ba;rw[hd]at a;cases a;exact c
theorem IC.counts(h:IC f)(n:f.r.length<=16)(he:∀b d,f.n b=some d->d.2.length<=10)(x:Nat):cu f x<=1000000:=by
 by_cases e:x<f.c.length
 ·rw[h.names e]
  have g:rc f.r x<=16:=by
   have:=List.count_le_length (a:=x) (l:=f.r.map fun r=>r.2.toNat)
   unfold rc;simp at *;omega
  have i:deg f.n f.c.length x<=f.c.length*10:=oY fun y m=>by
   cases c:f.n y with
   | none=>simp[cF]
   | some d=>
    have:=he y d c
    have j:=List.count_le_length (a:=x) (l:=kids d);have k:(kids d).length<=d.2.length:=by unfold kids;split<;>simp
    simp only[cF];omega
  have:=h.al
  omega
 ·rw[wR (by omega)];omega
def VL(es:List E3):Prop:=∀e∈es,e.2.2≠0->e.2.1=ByteArray.empty
def VE(f:fZ):Prop:=∀b d,f.n b=some d->VL d.2
theorem VL.nil:VL []:=fun e h=>by cases h
theorem VL.get(h:VL es)(b:i<es.length)(a:(es.getD i e0).2.2≠0):(es.getD i e0).2.1=ByteArray.empty:=h _ (nX b) a
theorem VL.app{b:List E3}(c:VL a)(d:VL b):VL (a++b):=fun e h=>by
 rcases List.mem_append.1 h with q | q
 ·exact c e q
 ·exact d e q
theorem VL.take(b:VL a)(n:Nat):VL (a.take n):=fun e h=>b e (List.mem_of_mem_take h)
theorem VL.drop(b:VL a)(n:Nat):VL (a.drop n):=fun e h=>b e (List.mem_of_mem_drop h)
theorem VL.one(h:e.2.2≠0->e.2.1=ByteArray.empty):VL [e]:=fun x a=>by simp only[List.mem_singleton]at a;subst a;exact h
theorem VL.insE(b:VL a)(i:Nat)(h:e.2.2≠0->e.2.1=ByteArray.empty):VL (insE a i e):=by
 unfold Fo.insE;exact(b.take i).app fun x c=>by
  rcases List.mem_cons.1 c with q | q
  ·subst q;exact h
  ·exact b.drop i x q
theorem VL.delE(b:VL a)(i:Nat):VL (delE a i):=(b.take i).app (b.drop (i+1))
theorem VL.set(b:VL a)(i:Nat)(h:e.2.2≠0->e.2.1=ByteArray.empty):VL (a.set i e):=fun x c=>by
 rcases List.mem_or_eq_of_mem_set c with q | q
 ·exact b x q
 ·subst q;exact h
theorem VE.look(h:VE f)(b:Nat):VL (look f b).2:=by
 unfold Fo.look;cases e:f.n b with
 | none=>exact VL.nil
 | some d=>exact h b d e
theorem VE.upd(h:VE f)(hd:VL d.2)(hn:∀x d',g.n x=some d'->f.n x=some d'\/d'=d):VE g:=fun x d' a=>by
 rcases hn x d' a with q | q
 ·exact h x d' q
 ·rw[q];exact hd
theorem VE.sub(h:VE f)(hn:∀x d',g.n x=some d'->f.n x=some d'):VE g:=fun x d' a=>h x d' (hn x d' a)
theorem VE.setN(h:VE f)(b:Nat)(hd:VL d.2):VE (setN f b d):=h.upd hd fun x d' c=>by
 have a:Fo.upd f.n b (some d) x=some d':=c;by_cases e:x=b
 ·rw[e,aE]at a;cases a;exact .inr rfl
 ·rw[aC _ _ e]at a;exact .inl a
theorem VE.takeAt(h:VE f)(b:Nat)(hd:VL d.2):VE (takeAt f b d):=VE.setN (f:=f) h b hd
theorem VE.freeB(h:VE f)(b:Nat):VE (freeB f b):=h.sub fun x d' c=>by
 have a:Fo.upd f.n b none x=some d':=c;by_cases e:x=b
 ·rw[e,aE]at a;cases a
 ·rw[aC _ _ e]at a;exact a
theorem VE.letGo(h:VE f)(b:Nat):VE (letGo f b):=by
 unfold Fo.letGo;split
 ·exact h.freeB b
 ·exact h
theorem VL.setE(h:VL d.2)(i q:Nat)(hc:(d.2.getD i e0).2.2≠0\/(d.2.getD i e0).2.1=ByteArray.empty):VL (setE d i q).2:=by
 unfold Fo.setE;by_cases a:i<d.2.length
 ·refine h.set i fun _=>?_
  rcases hc with hc | hc
  ·exact h.get a hc
  ·exact hc
 ·show VL (d.2.set i _)
  rw[List.set_eq_of_length_le (by omega)];exact h
theorem VE.setL(h:VE f)(L:Loc)(q:Nat)(hc:∀b i,L=.ai b i->((Fo.look f b).2.getD i e0).2.2≠0):VE (setL f L q):=by
 cases L with
 | inl t=>exact h.sub fun _ _ q=>q
 | inr a=>obtain⟨b,i⟩:=a;exact h.setN b ((h.look b).setE i q (.inl (hc b i rfl)))
theorem VE.shadowAt(h:VE f)(L:Loc)(q:Nat)(hc:∀b i,L=.ai b i->b≠q/\((Fo.look f b).2.getD i e0).2.2≠0):VE (shadowAt f L q):=by
 unfold Fo.shadowAt;refine VE.letGo (VE.setL (h.takeAt q (h.look _)) L q fun b i e=>?_) _;obtain⟨a,c⟩:=hc b i e;have:Fo.look (Fo.takeAt f q (Fo.look f (bN f L))) b=Fo.look f b:=by
  unfold Fo.look;show(Fo.upd f.n q _ b).getD _=_
  rw[aC _ _ a]
 rw[this];exact c
theorem VL.lowK(h:VL es)(key:ByteArray):VL (lowK es key):=by
 unfold Fo.lowK;split
 ·by_cases a:0<es.length
  ·exact h.set 0 fun q=>h.get a q
  ·rw[List.set_eq_of_length_le (by omega)];exact h
 ·exact h
theorem VL.putE(h:VL es)(key val:ByteArray)(a:∀i,i<es.length->(es.getD i e0).2.2=0):VL (putE es key val):=by
 unfold Fo.putE;split
 ·rename_i b
  have:=((dK es key).1 b).1
  exact h.set _ fun q=>absurd (a _ this) q
 ·exact h.insE _ fun q=>absurd rfl q
theorem VE.inner(h:VE f)(a:IC f)(hd:f.n b=some (2,es))(c:i<es.length):es.getD i e0=(ky es i,.empty,(kd es i:Int))/\(es.getD i e0).2.2≠0:=by
 have k:kd es i∈kids (2,es):=aR c;obtain⟨d',g⟩:=a.af hd k;have l:=a.dr g;have m:=a.ar hd c;have j:(es.getD i e0).2.2=(kd es i:Int):=by unfold kd ch;omega
 have d:(es.getD i e0).2.2≠0:=by omega
 refine⟨?_,d⟩;have:=VL.get (h b _ hd) c d;rw[<-j];have e:(es.getD i e0).2.1=ByteArray.empty:=this;rw[<-e];rfl
theorem tY(a:i<es.length)(h:es.getD i e0=e):es.set i e=es:=by
 refine List.ext_getElem? fun j=>?_;rw[List.getElem?_set];by_cases q:i=j
 ·subst q
  rw[if_pos rfl,if_pos a,<-h,gD,gE a];rfl
 ·rw[if_neg q]
theorem tZ(l:IC f)(q:VE f)(j:f.n b=some (2,es))(m:i<es.length)(hd:f.n (kd es i)=some d):
  (own f (kd es i)/\shadow f (.ai b i)=some (f,kd es i)/\es.set i (ky es i,.empty,(kd es i:Int))=es) \/
  (¬own f (kd es i)/\aG f=0/\shadow f (.ai b i)=none) \/
  (¬own f (kd es i)/\aG f≠0/\∃g,shadow f (.ai b i)=some (g,aG f)/\g.r=f.r/\aZ f g/\∀x d',g.n x=some d'->(setN (setN f (aG f) d) b (2,es.set i (ky es i,.empty,(aG f:Int)))).n x=some d'):=by
 have k:bN f (.ai b i)=kd es i:=by simp only[bN,aF j];rfl
 obtain⟨n,y⟩:=q.inner l j m;by_cases c:own f (kd es i)
 ·refine .inl ⟨c,?_,tY m n⟩
  unfold shadow;rw[k,if_pos c]
 ·by_cases h:aG f=0
  ·refine .inr (.inl ⟨c,h,?_⟩)
   unfold shadow;rw[k,if_neg c,if_pos h]
  ·refine .inr (.inr ⟨c,h,shadowAt f (.ai b i) (aG f),?_,eP f b i _,aZ.shadowAt f _ _,fun x d' a=>?_⟩)
   ·unfold shadow;rw[k,if_neg c,if_neg h]
   ·obtain⟨t,u,v,w⟩:=aP h
    have s:b≠aG f:=fun e=>by have:=l.a7 j;rw[e]at this;omega
    have o:(setL (takeAt f (aG f) (look f (kd es i))) (.ai b i) (aG f)).n x=some d':=by
     unfold shadowAt at a;rw[k]at a;rw[cV]at a;split at a
     ·by_cases e:x=kd es i
      ·rw[e,aE]at a;cases a
      ·rw[aC _ _ e]at a;exact a
     ·exact a
    have r:look (takeAt f (aG f) (look f (kd es i))) b=(2,es):=by
     unfold look;show(upd f.n (aG f) _ b).getD _=_
     rw[aC _ _ s,j];rfl
    have p:setE (2,es) i (aG f)=(2,es.set i (ky es i,.empty,(aG f:Int))):=by
     unfold setE;rw[n]
    have:(setL (takeAt f (aG f) (look f (kd es i))) (.ai b i) (aG f))=setN (takeAt f (aG f) (look f (kd es i))) b (setE (look (takeAt f (aG f) (look f (kd es i))) b) i (aG f)):=rfl
    rw[this,r,p,aF hd]at o;exact o
theorem qV(l:IC f)(ht:t<f.r.length)(hd:f.n (aB f t)=some d):
  (own f (aB f t)/\shadow f (.root t)=some (f,aB f t)/\f.r.set t ((f.r.getD t (0,0)).1,(aB f t:Int))=f.r) \/
  (¬own f (aB f t)/\aG f=0/\shadow f (.root t)=none) \/
  (¬own f (aB f t)/\aG f≠0/\∃g,shadow f (.root t)=some (g,aG f)/\g.r=f.r.set t ((f.r.getD t (0,0)).1,(aG f:Int))/\aZ f g/\∀x d',g.n x=some d'->(setN f (aG f) d).n x=some d'):=by
 have c:bN f (.root t)=aB f t:=rfl;by_cases b:own f (aB f t)
 ·refine .inl ⟨b,?_,?_⟩
  ·unfold shadow;rw[c,if_pos b]
  ·have k:0<=(f.r.getD t (0,0)).2:=(l.rb _ (aQ ht)).1
   have:((f.r.getD t (0,0)).1,(aB f t:Int))=f.r.getD t (0,0):=by
    unfold aB;rw[Int.toNat_of_nonneg k]
   rw[this];refine List.ext_getElem? fun j=>?_;rw[List.getElem?_set];by_cases q:t=j
   ·subst q
    rw[if_pos rfl,if_pos ht,gD,gE ht];rfl
   ·rw[if_neg q]
 ·by_cases h:aG f=0
  ·refine .inr (.inl ⟨b,h,?_⟩)
   unfold shadow;rw[c,if_neg b,if_pos h]
  ·refine .inr (.inr ⟨b,h,shadowAt f (.root t) (aG f),?_,dL f t _,aZ.shadowAt f _ _,fun x d' a=>?_⟩)
   ·unfold shadow;rw[c,if_neg b,if_neg h]
   ·have i:(setL (takeAt f (aG f) (look f (aB f t))) (.root t) (aG f)).n x=some d':=by
     unfold shadowAt at a;rw[c]at a;rw[cV]at a;split at a
     ·by_cases e:x=aB f t
      ·rw[e,aE]at a;cases a
      ·rw[aC _ _ e]at a;exact a
     ·exact a
    have:(setL (takeAt f (aG f) (look f (aB f t))) (.root t) (aG f)).n=(setN f (aG f) (look f (aB f t))).n:=rfl
    rw[this,aF hd]at i;exact i
theorem VE.aj(h:VE f)(k:IC f)(d:f.n b=some (2,es))(n:i<es.length)(a:shadow f (.ai b i)=some (g,c)):VE g:=by
 have m:bN f (.ai b i)=kd es i:=by simp only[bN,aF d];rfl
 unfold shadow at a;rw[m]at a;by_cases l:own f (kd es i)
 ·rw[if_pos l]at a;cases a;exact h
 ·rw[if_neg l]at a
  by_cases j:aG f=0
  ·rw[if_pos j]at a;cases a
  ·rw[if_neg j]at a
   cases a
   obtain⟨q,r,s,t⟩:=aP j;refine h.shadowAt _ _ fun o p e=>?_;cases e;refine⟨fun e=>by have:=k.a7 d;rw[e]at this;omega,?_⟩;rw[aF d];exact(h.inner k d n).2
theorem VE.ak(b:VE f)(a:shadow f (.root t)=some (g,c)):VE g:=by
 unfold shadow at a;by_cases h:own f (bN f (.root t))
 ·rw[if_pos h]at a;cases a;exact b
 ·rw[if_neg h]at a
  by_cases d:aG f=0
  ·rw[if_pos d]at a;cases a
  ·rw[if_neg d]at a
   cases a
   exact b.shadowAt _ _ fun i j e=>by cases e
theorem VE.splitF(b:VE f)(p:Nat)(d:VL pes)(a c:Nat)(k:Int)(hc:VL ces)(m q:Nat)(key:ByteArray):VE (splitF f p pes a c k ces m q key):=
 ((b.setN c (hc.take m)).takeAt q (hc.drop m)).setN p (d.insE _ fun _=>rfl)
theorem VE.growF(g:VE f)(t r:Nat)(k:Int)(he:VL es)(m q a:Nat)(c d:ByteArray):VE (growF f t r k es m q a c d):=by
 refine VE.setL (VE.takeAt (VE.takeAt (g.setN r (he.take m)) q (he.drop m)) a ?_) (.root t) a fun b i e=>by cases e
 exact(VL.one (e:=(c,.empty,(r:Int))) fun _=>rfl).app (VL.one (e:=(d,.empty,(q:Int))) fun _=>rfl)
theorem qJ(a:f.n b=some (2,es))(key:ByteArray):stepDown f b key=match shadow (setN f b (2,lowK es key)) (.ai b (bL (lowK es key) key))with
  | none=>none
  | some (g,c)=>if(look g c).2.length=5 then if aG g=0 then none else some (splitF g b (look g b).2 (bL (lowK es key) key) c (look g c).1 (look g c).2 3 (aG g) (ky (look g c).2 3),if kl key (ky (look g c).2 3)=true then c else aG g)else some (g,c):=by
 unfold stepDown;rw[aF a];rfl
theorem dG(l:IC f)(C:VE f)(j:f.n b=some (2,es))(n:i<es.length)(hd:f.n (kd es i)=some d)(h:shadow f (.ai b i)=some (g,c)):
  g.n c=some d/\c≠b/\(∀x,x≠c->x≠b->x≠kd es i->g.n x=f.n x)/\(∀x d',f.n x=some d'->x≠kd es i->x≠c)/\g.n b=some (2,es.set i (ky es i,.empty,(c:Int)))/\c<f.c.length:=by
 have r:bN f (.ai b i)=kd es i:=by simp only[bN,aF j];rfl
 have t:b≠kd es i:=fun e=>l.ag j (by rw[e];exact aR n);obtain⟨u,I⟩:=C.inner l j n;unfold shadow at h;rw[r]at h;by_cases s:own f (kd es i)
 ·rw[if_pos s]at h;cases h
  exact⟨hd,t.symm,fun _ _ _ _=>rfl,fun _ _ _ q=>q,by rw[tY n u];exact j,l.lt hd⟩
 ·rw[if_neg s]at h
  by_cases o:aG f=0
  ·rw[if_pos o]at h;cases h
  ·rw[if_neg o]at h
   cases h
   obtain⟨F,E,G,H⟩:=aP o;have a:∀x d',f.n x=some d'->x≠aG f:=fun x d' k e=>by have:=l.a7 k;rw[e]at this;omega
   have p:=a b _ j;have w:=a _ _ hd;have D:look (takeAt f (aG f) (look f (kd es i))) b=(2,es):=by
    unfold look;show(upd f.n (aG f) _ b).getD _=_
    rw[aC _ _ p,j];rfl
   have v:setE (2,es) i (aG f)=(2,es.set i (ky es i,.empty,(aG f:Int))):=by
    unfold setE;rw[u]
   have m:∀x,x≠kd es i->(shadowAt f (.ai b i) (aG f)).n x=upd (upd f.n (aG f) (some d)) b (some (2,es.set i (ky es i,.empty,(aG f:Int)))) x:=fun x k=>by
    unfold shadowAt;rw[r,cV];have y:(setL (takeAt f (aG f) (look f (kd es i))) (.ai b i) (aG f)).n=upd (upd f.n (aG f) (some d)) b (some (2,es.set i (ky es i,.empty,(aG f:Int)))):=by
     show(setN (takeAt f (aG f) (look f (kd es i))) b (setE (look (takeAt f (aG f) (look f (kd es i))) b) i (aG f))).n=_
     rw[D,v,aF hd];rfl
    rw[y];split
    ·rw[aC _ _ k]
    ·rfl
   refine⟨?_,p.symm,fun x z A B=>?_,fun x d' k _=>a x d' k,?_,E⟩
   ·rw[m _ w.symm,aC _ _ p.symm,aE]
   ·rw[m x B,aC _ _ A,aC _ _ z]
   ·rw[m b t,aE]
theorem VE.moveF(a:VE f)(p c s:Nat)(k:Int)(h1:VL ces)(h2:VL ses)(h3:VL pes):VE (moveF f p c s k ces ses pes):=((a.setN c h1).setN s h2).setN p h3
theorem VE.mergeF(a:VE f)(p c s:Nat)(k:Int)(h1:VL ces)(h3:VL pes):VE (mergeF f p c s k ces pes):=((a.setN c h1).setN p h3).letGo s
theorem VE.fallF(a:VE f)(t r c:Nat):VE (fallF f t r c):=(a.freeB r).setL (.root t) c fun b i e=>by cases e
theorem VE.fillNext(e:VE g)(m:IC g)(h:g.n b=some (2,es))(l:i+1<es.length)(a:fillNext g b i c=some f'):VE f':=by
 unfold Fo.fillNext at a;rw[aF h]at a;simp only at a;split at a
 ·cases j:shadow g (.ai b (i+1))with
  | none=>rw[j]at a;cases a
  | some p=>
   obtain⟨k,s⟩:=p;rw[j]at a;simp only[sJ]at a;subst a;have f:=e.aj m h l j;obtain⟨d,o⟩:=m.af h (aR l);obtain⟨_,_,_,_,n,_⟩:=dG m e h l o j;refine f.moveF b c s _ ((f.look c).app ((f.look s).take 1)) ((f.look s).drop 1) ((f.look b).set _ fun q=>?_);rw[aF n,bF _ _ _ _ _ l,if_pos rfl]
 ·simp only[sJ]at a
  subst a;exact e.mergeF b c _ _ ((e.look c).app (e.look _)) ((e b _ h).delE _)
theorem VE.fillLast(e:VE g)(j:IC g)(f:g.n b=some (2,es))(n:i<es.length)(h1:1<=i)(a:fillLast g b i c=some f'):VE f':=by
 unfold Fo.fillLast at a;rw[aF f]at a;simp only at a;have m:i-1<es.length:=by omega
 split at a
 ·cases l:shadow g (.ai b (i-1))with
  | none=>rw[l]at a;cases a
  | some r=>
   obtain⟨k,s⟩:=r;rw[l]at a;simp only[sJ]at a;subst a;have h:=e.aj j f m l;obtain⟨d,p⟩:=j.af f (aR m);obtain⟨_,_,_,_,o,_⟩:=dG j e f m p l;refine h.moveF b s c _ ((h.look s).take _) (((h.look s).drop _).app (h.look c)) ((h.look b).set _ fun q=>?_);rw[aF o,bF _ _ _ _ _ m,if_neg (by omega)];have:=(e.inner j f n).1;rw[this]
 ·simp only[sJ]at a
  subst a;refine e.mergeF b c _ _ ((e.look _).app (e.look c)) (((e b _ f).set _ fun q=>?_).delE _);have:=(e.inner j f n).1;show(es.getD i e0).2.1=_
  rw[this]
theorem sA(a:g.n b=some (2,es))(hc:g.n (kd es i)=some (k,ces))(c:g.n (kd es (i+1))=some (k,ses))(h2:ses.length=2):
  fillNext g b i (kd es i)=some (mergeF g b (kd es i) (kd es (i+1)) k (ces++ses) (delE es (i+1))):=by
 unfold fillNext;rw[aF a];simp only;rw[aF c,aF hc];exact if_neg (by simp only;omega)
theorem rZ(c:IC g)(d:VE g)(a:g.n b=some (2,es))(e:j+1<es.length)(hc:g.n (kd es (j+1))=some (k,ces))(f:g.n (kd es j)=some (k,ses))(h2:ses.length=2):
  fillLast g b (j+1) (kd es (j+1))=some (mergeF g b (kd es (j+1)) (kd es j) k (ses++ces) (delE (es.set (j+1) (ky es j,.empty,(kd es (j+1):Int))) j)):=by
 unfold fillLast;rw[aF a];simp only[Nat.add_sub_cancel];rw[aF f,aF hc];have:=(d.inner c a e).1;rw[this];exact if_neg (by simp only;omega)
theorem uQ(j:IC g)(l:VE g)(a:g.n b=some (2,es))(d:i+1<es.length)(hc:g.n (kd es i)=some (k,ces))(e:g.n (kd es (i+1))=some (k,ses))(n:b≠kd es i)(c:kd es i≠kd es (i+1))(h2:2<ses.length):
  fillNext g b i (kd es i)=(shadow g (.ai b (i+1))).map fun p=>moveF p.1 b (kd es i) p.2 k (ces++ses.take 1) (ses.drop 1) (es.set (i+1) (ky ses 1,.empty,(p.2:Int))):=by
 unfold fillNext;rw[aF a];simp only;rw[aF e,if_pos h2];cases h:shadow g (.ai b (i+1))with
 | none=>rfl
 | some m=>
  obtain⟨g',s⟩:=m;obtain⟨o,u,q,r,t,v⟩:=dG j l a d e h;have f:g'.n (kd es i)=some (k,ces):=by
   rw[q _ (r _ _ hc c) n.symm c];exact hc
  simp only[Option.map_some];rw[aF o,aF f,aF t];simp only;rw[List.set_set,bF _ _ _ _ _ d,if_pos rfl]
theorem uP(d:IC g)(e:VE g)(a:g.n b=some (2,es))(m:j+1<es.length)(hc:g.n (kd es (j+1))=some (k,ces))(f:g.n (kd es j)=some (k,ses))(q:b≠kd es (j+1))(c:kd es (j+1)≠kd es j)(h2:2<ses.length):
  fillLast g b (j+1) (kd es (j+1))=(shadow g (.ai b j)).map fun p=>moveF p.1 b p.2 (kd es (j+1)) k (ses.take (ses.length-1)) (ses.drop (ses.length-1)++ces) ((es.set (j+1) (ky ses (ses.length-1),.empty,(kd es (j+1):Int))).set j (ky es j,.empty,(p.2:Int))):=by
 unfold fillLast;rw[aF a];simp only[Nat.add_sub_cancel];rw[aF f,if_pos h2];cases i:shadow g (.ai b j)with
 | none=>rfl
 | some o=>
  obtain⟨g',s⟩:=o;obtain⟨r,w,t,u,v,x⟩:=dG d e a (by omega) f i;have h:g'.n (kd es (j+1))=some (k,ces):=by
   rw[t _ (u _ _ hc c) q.symm c];exact hc
  simp only[Option.map_some];rw[aF r,aF h,aF v];simp only;have n:=(e.inner d a m).1;have l:(es.set j (ky es j,.empty,(s:Int))).getD (j+1) e0=es.getD (j+1) e0:=by rw[bF _ _ _ _ _ (by omega),if_neg (by omega)]
  rw[l,n];have:(es.set j (ky es j,.empty,(s:Int))).set (j+1) (ky ses (ses.length-1),.empty,(kd es (j+1):Int))=(es.set (j+1) (ky ses (ses.length-1),.empty,(kd es (j+1):Int))).set j (ky es j,.empty,(s:Int)):=(List.set_comm _ _ (by omega));rw[this]
theorem Wk.cj(w:Wk g t H)(p:aO g t H P b (h+1) lo hi)(a:g.n b=some (2,es))(hi':i<es.length)(c:j<es.length)(C:i≠j)(hc:g.n (kd es i)=some (k,ces))(s:cu g (kd es i)=1):
  ∃ses,g.n (kd es j)=some (k,ses)/\2<=ses.length/\b≠kd es i/\b≠kd es j/\kd es i≠kd es j:=by
 have eS:=aR hi';have r:=aR c;obtain⟨v,q,z,A,B,l⟩:=(p.ok w.ok).1;rw[a]at q;cases q;have o:=(dO hc).1 (l i hi').2;obtain⟨⟨x,ses⟩,m⟩:=w.ic.af a r;have n:=(dO m).1 (l j c).2;have y:x=k:=by
  cases h with
  | zero=>have d:=o.1;have f:=n.1;simp only at d f;omega
  | succ h=>have d:=o.1;have f:=n.1;simp only at d f;omega
 subst y;have u:2<=ses.length:=by have:=(l j c).1;unfold sz at this;rw[m]at this;exact this
 refine⟨ses,m,u,fun e=>w.ic.ag a (e▸eS),fun e=>w.ic.ag a (e▸r),fun e=>?_⟩;have:=eA (w.ic.only s a eS).2.1 hi' c e.symm;omega
theorem Wk.cw(w:Wk f t H)(p:aO f t H P b (h+1) lo hi)(hr:cJ f t H)(h3:P≠[]->3<=sz f.n b)(x:Mem f.n (h+1) b key)(o:Fo.stepDel f b key=some (g,c)):
  aZ f g/\((2<=(look g b).2.length/\delAt (h+1) f t b key=delAt h g t c key/\Wk g t H/\∃P' lo' hi',aO g t H P' c h lo' hi'/\(P'≠[]->3<=sz g.n c)/\cJ g t H/\Mem g.n h c key) \/
   ((look g b).2.length=1/\b=aB g t/\t<g.r.length/\delAt (h+1) f t b key=delAt h (fallF g t b c) t c key/\∃H',Wk (fallF g t b c) t H'/\aO (fallF g t b c) t H' [] c h none none/\cJ (fallF g t b c) t H'/\Mem (fallF g t b c).n h c key)):=by
 have st:=w.stepDel p hr h3 x o;refine⟨st.same,?_⟩;obtain⟨lo',hi',r⟩:=st.path;have d:delAt (h+1) f t b key=if(look g b).2.length=1 then delAt h (fallF g t (aB g t) (kd (look g b).2 0)) t c key else delAt h g t c key:=by
  conv=>lhs;unfold delAt
  rw[o]
 rcases st.many with⟨es,a,i⟩ | ⟨v,e,a,i⟩
 ·left
  have j:(look g b).2.length=es.length:=by rw[aF a]
  rw[if_neg (by omega)]at d;have u:cJ g t H:=by
   rcases st.rt hr with q | ⟨_,e,q,_⟩
   ·exact q
   ·rw[a]at q;cases q;simp at i
  exact⟨by omega,d,st.wk,_,lo',hi',r,fun _=>st.spare,u,st.mem⟩
 ·right
  have j:(look g b).2.length=1:=by rw[aF a];rfl
  have z:kd (look g b).2 0=c:=by rw[aF a];exact i
  rw[if_pos j,z]at d;subst v;rcases st.up.top with⟨_,q,B⟩ | ⟨q,_⟩
  ·subst B
   have A:=a;rw[q]at a;have s:cu g (aB g t)=1:=by have:=(st.up.named st.wk.ic st.wk.tl b List.mem_cons_self).1;rw[q]at this;exact this
   have y:cu g (ch e)=1:=by rw[i];exact(r.named st.wk.ic st.wk.tl c List.mem_cons_self).1
   obtain⟨k,l,C,m,D,n⟩:=st.wk.cn a s y;rw[i]at k l C m D n;rw[<-q]at d k l m n;exact⟨j,q,st.wk.tl,d,_,k,l,m,n key st.mem⟩
  ·cases q
theorem Wk.two(p:aO f t H P b (h+1) lo hi)(hr:cJ f t H)(h3:P≠[]->3<=sz f.n b)(a:f.n b=some (2,es)):2<=es.length:=by
 by_cases c:P=[]
 ·rcases p.top with⟨_,q,d⟩ | ⟨q,_⟩
  ·rcases hr with hr | hr
   ·omega
   ·rw[<-q]at hr;unfold sz at hr;rw[a]at hr;exact hr
  ·rw[c]at q;cases q
 ·have:=h3 c;unfold sz at this;rw[a]at this;simp only at this;omega
def nO(nodes:Nat->Option Nd):Nat->Nat->List Nat
 | 0,b=>(List.range (mT nodes b).length).map fun j=>5*b+j
 | h+1,b=>(mT nodes b).flatMap fun e=>nO nodes h (ch e)
def aEC(nodes:Nat->Option Nd)(c:Nat):ByteArray:=ky (mT nodes (c / 5)) (c % 5)
theorem yP(r:IC f):∀{h b:Nat} {lo hi:OB},Ok f.n h b lo hi->(bJ f.n h b).map (fun p=>p.1)=(nO f.n h b).map (aEC f.n)/\∀c∈nO f.n h b,c<5*f.c.length
 | 0,b,lo,hi,k=>by
  obtain⟨d,s,_,o,_⟩:=k.ba;have B:=r.lt s;have i:mT f.n b=d.2:=cZ s;unfold bJ nO;rw[i];constructor
  ·refine List.ext_getElem? fun j=>?_
   rw[List.getElem?_map,List.getElem?_map,List.getElem?_map,List.getElem?_map];by_cases g:j<d.2.length
   ·rw[gE g,List.getElem?_range g]
    simp only[Option.map_some,sJ];unfold aEC;rw[show(5*b+j) / 5=b by omega,show(5*b+j) % 5=j by omega,i];unfold ky;rw[gD,gE g];rfl
   ·rw[List.getElem?_eq_none (by omega),List.getElem?_eq_none (by simp;omega)];rfl
  ·intro c n
   obtain⟨j,g,rfl⟩:=List.mem_map.1 n;have:=List.mem_range.1 g;omega
 | h+1,b,lo,hi,k=>by
  obtain⟨es,v,y,z,A,o⟩:=k;have i:mT f.n b=es:=cZ v;unfold bJ nO;rw[i];have key:∀e∈es,(bJ f.n h (ch e)).map (fun p=>p.1)=(nO f.n h (ch e)).map (aEC f.n)/\∀c∈nO f.n h (ch e),c<5*f.c.length:=fun e w=>by
   obtain⟨j,g,rfl⟩:=cH w;exact yP r (o j g).2
  constructor
  ·rw[List.map_flatMap,List.map_flatMap]
   have m:∀l:List E3,(∀e∈l,e∈es)->l.flatMap (fun a=>(bJ f.n h (ch a)).map fun p=>p.1)=l.flatMap (fun a=>(nO f.n h (ch a)).map (aEC f.n)):=by
    intro l;induction l with
    | nil=>intro _;rfl
    | cons a l ih=>
     intro t;rw[List.flatMap_cons,List.flatMap_cons,(key a (t a List.mem_cons_self)).1,ih fun e i=>t e (List.mem_cons_of_mem _ i)]
   exact m es fun _ q=>q
  ·intro c n
   obtain⟨e,u,x⟩:=List.mem_flatMap.1 n;exact(key e u).2 c x
theorem pK(g:IC f)(k:Ok f.n h b lo hi):(bJ f.n h b).length<=2560:=by
 obtain⟨c,j⟩:=yP g k;have o:=oD k;have n:(nO f.n h b).Nodup:=by
  have d:((bJ f.n h b).map fun p=>p.1).Pairwise fun p q=>kl p q=true:=List.pairwise_map.2 o;rw[c]at d;have l:=List.pairwise_map.1 d;refine l.imp fun {a b} i e=>?_;rw[e,eI]at i;cases i
 have:=few (5*f.c.length) _ n j
 have m:=congrArg List.length c;rw[List.length_map,List.length_map]at m;have:=g.al;omega
theorem aAW(w:Wk f t H)(p:aO f t H P b (h+1) lo hi)(l:VE f)(v:loR lo key)(d:Fo.stepDown f b key=some (g,c)):VE g:=by
 obtain⟨es,j,A,n⟩:=p.inner w;obtain⟨w1,z,r1⟩:=w.bw p j key v;have m:VE (setN f b (2,lowK es key)):=l.setN b (VL.lowK (l b _ j) key);rw[qJ j]at d;generalize hK:lowK es key=a at *;have r:(setN f b (2,a)).n b=some (2,a):=aE _ _ _;have q:a.length=es.length:=by rw[<-hK];exact cM es key
 have x:a≠[]:=fun e=>n (List.length_eq_zero_iff.1 (by rw[<-q,e];rfl));have s:bL a key<a.length:=eJ key x;cases k:shadow (setN f b (2,a)) (.ai b (bL a key))with
 | none=>rw[k]at d;cases d
 | some u=>
  obtain⟨y,o⟩:=u;rw[k]at d;have i:=m.aj w1.ic r s k;simp only at d;split at d
  ·split at d
   ·cases d
   ·cases d
    exact i.splitF b (i.look b) _ _ _ (i.look o) _ _ _
  ·cases d;exact i
theorem uF:∀{h:Nat} {f:fZ} (w:Wk f t H) {P:List Nat} {b:Nat} {lo hi:OB} (p:aO f t H P b h lo hi) (hl:loR lo key) (hh:hiR hi key) (h5:sz f.n b<5) (hV:VE f) {g:fZ} {th:Bool} (hs:Fo.putAt h f b key val=some (g,th)),VE g
 | 0,f,w,P,b,lo,hi,p,hl,hh,h5,hV,g,th,hs=>by
  obtain⟨es,c,q,e⟩:=p.leaf w;unfold Fo.putAt at hs;rw[aF c]at hs;simp only[sJ,Prod.mk.injEq]at hs;obtain⟨rfl,rfl⟩:=hs;exact hV.setN b (VL.putE (hV b _ c) key val e)
 | h+1,f,w,P,b,lo,hi,p,hl,hh,h5,hV,g,th,hs=>by
  unfold Fo.putAt at hs;cases a:Fo.stepDown f b key with
  | none=>rw[a]at hs;cases hs
  | some d=>
   obtain⟨o,n⟩:=d;rw[a]at hs;obtain⟨m,lo',hi',w1,l,i,j,k,r,s⟩:=w.stepDown p hl hh h5 a;exact uF w1 l i j k (aAW w p hV hl a) hs
theorem aOR(w:Wk f t H)(C:VE f)(a:Fo.put f t H key val=some (g,th)):VE g:=by
 unfold Fo.put at a;cases j:shadow f (.root t)with
 | none=>rw[j]at a;cases a
 | some gr=>
  obtain⟨c,r1⟩:=gr;rw[j]at a;simp only at a;have l:=C.ak j;obtain⟨w1,y,A,L,r,M,N,O⟩:=w.ak j;obtain⟨⟨k,es⟩,h⟩:=w1.ic.live (x:=r1) (by rw[r];omega);have P:es.length<=5:=by
   obtain⟨d',d1,_,d2,_⟩:=((y.ok w1.ok).1).ba;rw[h]at d1;cases d1;exact d2
  rw[aF h]at a;simp only at a;by_cases d:es.length=5
  ·rw[if_pos d]at a
   cases b:bO c t r1 with
   | none=>rw[b]at a;cases a
   | some D=>
    obtain⟨S,J⟩:=D;rw[b]at a;simp only at a;unfold bO at b;rw[aF h]at b;simp only at b;by_cases p:aG c=0
    ·rw[if_pos p]at b;cases b
    ·rw[if_neg p]at b
     generalize hT:aG (takeAt (setN c r1 (k,es.take 3)) (aG c) (k,es.drop 3))=q at *;by_cases n:q=0
     ·rw[if_pos n]at b;cases b
     ·rw[if_neg n]at b
      simp only[sJ,Prod.mk.injEq]at b;obtain⟨rfl,rfl⟩:=b;obtain⟨E,s,F,T⟩:=aP p;obtain⟨u,v,i,U⟩:=aP (hT▸n);rw[hT]at u v i;have I:∀x,cu (takeAt (setN c r1 (k,es.take 3)) (aG c) (k,es.drop 3)) x=if aG c=x then 1 else cu c x:=fun x=>dW (f:=setN c r1 (k,es.take 3)) (k,es.drop 3) s x;rw[I]at i;have z:q≠aG c:=fun e=>by rw[if_pos e.symm]at i;omega
      rw[if_neg (Ne.symm z)]at i;have o:q<c.c.length:=by simpa [takeAt,setN] using v
      subst A;obtain⟨K,G,Q,R,B⟩:=w1.grow r h (m:=3) (by omega) (by omega) E s F u o i z;exact uF K G trivial trivial (by unfold sz;rw[B];simp) (l.growF _ _ _ (l _ _ h) _ _ _ _ _) a
  ·rw[if_neg d]at a
   exact uF w1 y trivial trivial (by unfold sz;rw[h];simp only;omega) l a
theorem aDB(w:Wk f t H)(p:aO f t H P b (h+1) lo hi)(u:VE f)(h2:2<=sz f.n b)(a:Fo.stepDel f b key=some (g,c)):VE g:=by
 obtain⟨es,e,C,r⟩:=p.inner w;have v:2<=es.length:=by unfold sz at h2;rw[e]at h2;exact h2
 have n:bL es key<es.length:=eJ key r;unfold Fo.stepDel at a;rw[aF e]at a;simp only at a;cases i:shadow f (.ai b (bL es key))with
 | none=>rw[i]at a;cases a
 | some s=>
  obtain⟨o,m⟩:=s;rw[i]at a;have l:=u.aj w.ic e n i;obtain⟨w1,A,B,⟨es',j,x,y,z⟩,_⟩:=w.aj p e n i;simp only at a;rw[aF j]at a;simp only at a;split at a
  ·cases a;exact l
  ·split at a
   ·rename_i q
    cases d:fillNext o b (bL es key) m with
    | none=>rw[d]at a;cases a
    | some k=>rw[d]at a;cases a;exact l.fillNext w1.ic j q d
   ·rename_i q
    cases d:fillLast o b (bL es key) m with
    | none=>rw[d]at a;cases a
    | some k=>rw[d]at a;cases a;exact l.fillLast w1.ic j (by omega) (by omega) d
theorem uE:∀{h H:Nat} {f:fZ} (w:Wk f t H) {P:List Nat} {b:Nat} {lo hi:OB} (p:aO f t H P b h lo hi) (h3:P≠[]->3<=sz f.n b) (hr:cJ f t H) (hm:Mem f.n h b key) (hV:VE f) {g:fZ} (hs:Fo.delAt h f t b key=some g),VE g
 | 0,H,f,w,P,b,lo,hi,p,h3,hr,hm,hV,g,hs=>by
  obtain⟨es,m,G,F⟩:=p.leaf w;unfold Fo.delAt at hs;rw[aF m]at hs;simp only[sJ]at hs;subst hs;exact hV.setN b (VL.delE (hV b _ m) _)
 | h+1,H,f,w,P,b,lo,hi,p,h3,hr,hm,hV,g,hs=>by
  unfold Fo.delAt at hs;cases j:Fo.stepDel f b key with
  | none=>rw[j]at hs;cases hs
  | some z=>
   obtain⟨d,c⟩:=z;rw[j]at hs;simp only at hs;have A:2<=sz f.n b:=by
    by_cases i:P=[]
    ·rcases p.top with⟨_,q,o⟩ | ⟨q,_⟩
     ·rcases hr with hr | hr
      ·omega
      ·rw[<-q]at hr;exact hr
     ·subst i;cases q
    ·have:=h3 i;omega
   have l:=aDB w p hV A j;have st:=w.stepDel p hr h3 hm j;obtain⟨lo',hi',n⟩:=st.path;rcases st.many with⟨es,a,k⟩ | ⟨i,e,a,k⟩
   ·rw[aF a]at hs
    simp only at hs
    rw[if_neg (by omega)]at hs;have y:cJ d t H:=by
     rcases st.rt hr with q | ⟨_,e,q,_⟩
     ·exact q
     ·rw[a]at q;cases q;simp at k
    exact uE st.wk n (fun _=>st.spare) y st.mem l hs
   ·rw[aF a]at hs
    rw[if_pos (show([e]:List E3).length=1 from rfl)]at hs;have C:kd [e] 0=ch e:=rfl;rw[C]at hs;subst i;rcases st.up.top with⟨_,q,o⟩ | ⟨q,_⟩
    ·subst o
     rw[q]at a;have x:cu d (aB d t)=1:=by have:=(st.up.named st.wk.ic st.wk.tl b List.mem_cons_self).1;rw[q]at this;exact this
     have B:cu d (ch e)=1:=by rw[k];exact(n.named st.wk.ic st.wk.tl c List.mem_cons_self).1
     obtain⟨r,s,D,u,E,v⟩:=st.wk.cn a x B;rw[k]at r s D u E v hs;exact uE r s (fun q=>absurd rfl q) u (v key st.mem) (l.fallF _ _ _) hs
    ·cases q
theorem qU(w:Wk f t H)(l:Mem f.n H (aB f t) key){g1:fZ}{r:Nat}(a:shadow f (.root t)=some (g1,r)):Mem g1.n H r key:=by
 obtain⟨w1,T,N,u,O,P,Q,R⟩:=w.ak a;unfold shadow at a;have B:bN f (.root t)=aB f t:=rfl;rw[B]at a;by_cases o:own f (aB f t)
 ·rw[if_pos o]at a;cases a;exact l
 ·rw[if_neg o]at a
  by_cases j:aG f=0
  ·rw[if_pos j]at a;cases a
  ·rw[if_neg j]at a
   simp only[sJ,Prod.mk.injEq]at a;obtain⟨F,K⟩:=a;obtain⟨D,E,p,_⟩:=aP j;obtain⟨d,n⟩:=w.ic.ao (aQ w.tl);have h:f.n (aB f t)=some d:=n;obtain⟨M,s,_⟩:=w.ic.shadow (L:=.root t) w.tl rfl n D E p;have y:f.n (aG f)=none:=(w.ic.bb.dead _).2 p;have q:g1.n=if cu f (aB f t)=1 then upd (upd f.n (aG f) (some d)) (aB f t) none else upd f.n (aG f) (some d):=by rw[<-F];exact s
   let U:Nat->Prop:=fun x=>(∃d,f.n x=some d)/\(cu f (aB f t)=1->x≠aB f t)
   have G:∀x d,U x->f.n x=some d->∀c∈kids d,U c:=fun x d' _ g c b=>
    ⟨w.ic.af g b,fun i e=>(w.ic.aD (aQ w.tl) i).2 x d' g (by have:c=(f.r.getD t (0,0)).2.toNat:=e;rw[<-this];exact b)⟩
   have z:∀x,U x->g1.n x=f.n x:=fun x ⟨⟨d',g⟩,i⟩=>by
    have m:x≠aG f:=fun e=>by rw[e,y]at g;cases g
    rw[q];split
    ·rename_i J;rw[aC _ _ (i J),aC _ _ m]
    ·rw[aC _ _ m]
   have I:g1.n r=some d:=by rw[u];exact h
   rw[cA I];rw[cA h]at l;obtain⟨k,v⟩:=d;exact l.more (fun e A=>A) fun c b S C=>Mem.frame G z _ _ ⟨w.ic.af h b,fun _ e=>w.ic.ag h (e▸b)⟩ C
theorem aHA(w:Wk f t H)(hr:cJ f t H)(e:Mem f.n H (aB f t) key)(d:VE f)(a:bX f t H key=some g):VE g:=by
 unfold bX at a;cases b:shadow f (.root t)with
 | none=>rw[b]at a;cases a
 | some gr=>
  obtain⟨n,r⟩:=gr;rw[b]at a;simp only at a;obtain⟨w1,h,i,j,k,l,c,m⟩:=w.ak b;exact uE w1 h (fun q=>absurd rfl q) (c hr) (qU w e b) (d.ak b) a
theorem aKV(a:VE f)(t:Nat):VE (cS f t):=a.sub fun _ _ q=>q
theorem aMX(h:Inv f)(a:VE f)(ht:t<f.r.length)(h1:1<f.r.length)(b:Ok f.n H (aB f t) none none):VE (drop f t H).1:=a.sub fun x d q=>by
 obtain⟨_,_,_,_,_,_,_,_,_,c⟩:=nT h ht h1 b;rcases c x with e | e
 ·rw[<-e];exact q
 ·rw[e]at q;cases q
theorem aHB(a:VE f)(p:List Int):VE (dS f p):=a.sub fun _ _ q=>q
theorem pC(n:Nat):VE (aJ n):=fun x d b=>by
 have a:(if x=2 then some ((1:Int),([]:List E3))else none)=some d:=b;split at a
 ·cases a;exact VL.nil
 ·cases a
theorem zX{nodes:Nat->Option Nd}:∀{h b:Nat} {lo hi:OB},Ok nodes h b lo hi->Mem nodes h b key->∃v,find nodes h b key=some v
 | 0,b,lo,hi,c,d=>by
  obtain⟨es,a,e,_⟩:=c;obtain⟨es',f,j,m,k⟩:=d;rw[a]at f;cases f;refine⟨(es.getD (cLt es key) e0).2.1,?_⟩;simp only[find,cZ a];rw[if_pos (jW e.a6 m k).1]
 | h+1,b,lo,hi,c,d=>by
  have o:=c;obtain⟨es,a,e,g,p,i⟩:=c;have l:=eJ key g;obtain⟨v,n⟩:=zX (i _ l).2 (Mem.at a o d);exact⟨v,by simp only[find,cZ a];exact n⟩
theorem aGI(w:Wk f t H)(c:put f t H key val=some (g,th)):th=(find f.n H (aB f t) key).isSome:=by
 have h:=aGJ w c;cases a:find f.n H (aB f t) key with
 | none=>
  cases th with
  | false=>rfl
  | true=>
   obtain⟨v,b⟩:=zX w.ok (h.1 rfl);rw[a]at b;cases b
 | some v=>rw[h.2 (jM w.ok a)];rfl
theorem aFG{L:List Nat}(hn:L.Nodup)(h:∀x,x∈L↔x<f.c.length/\0<cu f x/\co f x=0):L.length=dZ f:=
 ((List.perm_ext_iff_of_nodup hn (mJ f _)).2 fun x=>by rw[h x,kX]).length_eq
theorem vI(f:fZ):dZ f<=f.c.length:=kW f _
abbrev VW:=Int×Int×Int×Int×Int
def dP(f:fZ)(b:Nat)(dp:Int):VW:=((b:Int),dp,(look f b).1,((look f b).2.length:Int),cu f b)
def bD(f:fZ):Nat->Nat->Int->List VW
 | 0,b,dp=>[dP f b dp]
 | h+1,b,dp=>dP f b dp ::(look f b).2.flatMap fun e=>bD f h (ch e) (dp+1)
theorem cG(h:f.n b=some d):look f b=d:=by unfold look;rw[h];rfl
theorem aIT{β:Type}(l:List E3)(V:E3->List α)(I:E3->List β)(h:∀e∈l,(V e).length+1<=2*(I e).length):(l.flatMap V).length+l.length<=2*(l.flatMap I).length:=by
 induction l with
 | nil=>simp
 | cons a l ih=>
  have c:=h a List.mem_cons_self;have d:=ih fun e b=>h e (List.mem_cons_of_mem _ b);rw[List.flatMap_cons,List.flatMap_cons,lP,lP,List.length_cons];omega
theorem wG:∀{h b:Nat} {lo hi:OB},Ok f.n h b lo hi->∀dp:Int,2<=sz f.n b->(bD f h b dp).length+1<=2*(bJ f.n h b).length
 | 0,b,lo,hi,k,dp,i=>by
  obtain⟨es,a,_⟩:=k;have:sz f.n b=es.length:=by unfold sz;rw[a]
  simp only[bD,bJ,cZ a,List.length_map,List.length_singleton];omega
 | h+1,b,lo,hi,k,dp,i=>by
  obtain⟨es,a,m,n,o,c⟩:=k;have l:sz f.n b=es.length:=by unfold sz;rw[a]
  have p:=aIT es (fun e=>bD f h (ch e) (dp+1)) (fun e=>bJ f.n h (ch e)) fun e g=>by
   obtain⟨j,d,rfl⟩:=cH g;exact wG (c j d).2 (dp+1) (c j d).1
  simp only[bD,bJ,cZ a,cG a,List.length_cons];omega
theorem aHC(a:IC f)(k:Ok f.n h b lo hi)(dp:Int)(c:h=0\/2<=sz f.n b):(bD f h b dp).length<=5120:=by
 rcases c with e | e
 ·subst e;simp[bD]
 ·have:=wG k dp e
  have:=pK a k
  omega
theorem sF{f g:E3->List α}:∀{l:List E3},(∀e∈l,f e=g e)->l.flatMap f=l.flatMap g
 | [],_=>rfl
 | a :: l,h=>by
  rw[List.flatMap_cons,List.flatMap_cons,h a List.mem_cons_self,sF fun e b=>h e (List.mem_cons_of_mem _ b)]
def uG(f:fZ):Nat->Nat->Int->List VW
 | 0,b,dp=>[dP f b dp]
 | n+1,b,dp=>dP f b dp :: if(look f b).1=2 then(look f b).2.flatMap fun e=>uG f n (ch e) (dp+1)else []
theorem wF:∀{h b:Nat} {lo hi:OB},Ok f.n h b lo hi->∀(n:Nat) (dp:Int),h<=n->uG f n b dp=bD f h b dp
 | 0,b,lo,hi,k,n,dp,i=>by
  obtain⟨es,a,_⟩:=k;cases n with
  | zero=>rfl
  | succ n=>simp[uG,bD,cG a]
 | h+1,b,lo,hi,k,n,dp,i=>by
  obtain⟨es,a,l,m,o,c⟩:=k;cases n with
  | zero=>omega
  | succ n=>
   simp only[uG,bD,cG a,if_true];refine congrArg _ (sF fun e d=>?_);obtain⟨j,g,rfl⟩:=cH d;exact wF (c j g).2 n (dp+1) (by omega)
theorem nF:∀{h b:Nat} {lo hi:OB},Ok f.n h b lo hi->∀dp:Int,h+1<=(bD f h b dp).length
 | 0,b,lo,hi,k,dp=>by simp[bD]
 | h+1,b,lo,hi,k,dp=>by
  obtain⟨es,c,i,d,j,g⟩:=k;cases es with
  | nil=>exact absurd rfl d
  | cons a es=>
   have:=nF (g 0 (by simp)).2 (dp+1)
   simp only[bD,cG c,List.length_cons,List.flatMap_cons,lP];have e:kd (a :: es) 0=ch a:=rfl;rw[e]at this;omega
def shp(f:fZ)(b:Nat):List VW:=uG f 6000 b 0
theorem aCP(c:IC f)(k:Ok f.n h b none none)(d:h=0\/2<=sz f.n b):shp f b=bD f h b 0/\h<=5120/\(bD f h b 0).length<=5120:=by
 have a:=aHC c k 0 d;have e:=nF k 0;exact⟨wF k 6000 0 (by omega),by omega,a⟩
