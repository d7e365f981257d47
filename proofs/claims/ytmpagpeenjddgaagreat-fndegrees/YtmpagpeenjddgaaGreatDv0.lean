import Derived.ProofKit
import Derived.OpenShut
import Derived.ShutString
import Derived.ChangeOld
import Derived.Below
import Derived.Test.YtmpagpeenjddgaaGreatSq27
import Derived.Test.YtmpagpeenjddgaaGreatBytes
set_option maxHeartbeats 9999999
set_option maxRecDepth 99999
set_option linter.all false
namespace Go.Proofs.YtmpagpeenjddgaaGreat
open Go.RowKit Fo
theorem aKX{w:World}{v:Value}{l:List Int}(h:y64.Sl w v l){k:Nat}(f:k<l.length):∃g o c,v=sL g o l.length c/\g<w.heap.size/\w.cell? (aD g (o+k))=some (iV (l.getD k 0)):=by
 obtain⟨g,o,c,e,d,b⟩:=h.at (by omega:0<l.length);refine⟨g,o,c,e,d,?_⟩;have a:=b k 0 f (by decide);have e0:o+k*y64.n+0=o+k:=by show o+k*1+0=o+k;omega
 rw[e0]at a;exact a
theorem tA(n:Nat)(hn:n<=1000)(w:World):Calls Tryz.prog 9 #[iV n] w fun e w'=>∃u,e=.returned u/\y64.Own w.heap.size w' u (List.replicate n 0)/\Bl w w':=by
 go_enter Tryz.func9,Tryz.ntmps9
 go_wp2
 go_loopw [3,4] (fun u i wr=>∃k:Nat,k<=n/\i=iV k/\y64.Own w.heap.size wr u (List.replicate k 0)/\Bl w wr) (fun _ i _=>n -(intOf i).toNat)
 case atStart=>exact⟨0,Nat.zero_le _,rfl,Ely.Own.lit _ _ (nR _) _ rfl,(bQ _ _).alloc (nR _) _⟩
 case round=>
  obtain⟨k,l,rfl,b,a⟩:=hrel;have f:=a.size;by_cases j:k<n
  ·have m:(k:Int) <(n:Int):=by omega
   have d:Hid (List.replicate (k+1) (0:Int)=List.replicate k 0++[0]):=List.replicate_succ';have h:(List.replicate k (0:Int)).length<1000000:=by simp;omega
   generalize List.replicate k (0:Int)=ys at *;go_wp2_with (first | (at_builtin;refine y64.av rfl _ _ rfl b rfl 0 rfl rfl h f ?_;intro p w1 c g o) | go_in);rw[<-d.out]at c;go_roundw
   case rel=>exact⟨k+1,by omega,by go_num,c,a.trans g⟩
   case measure=>simp[intOf];omega
  ·obtain rfl:k=n:=by omega
   go_wp2
   go_ret
   exact⟨_,rfl,b,a⟩
end Go.Proofs.YtmpagpeenjddgaaGreat
namespace Go.Proofs.YtmpagpeenjddgaaGreat
open Go.ChangeShapes Go.WideShapes Go.ChangeAt Go.RowKit
variable{base:Nat}{H:Type}{enc:TypeId×Value->H}{w:World}
theorem ownQ:ownKnob Tryz.prog.godebug=none:=by kernel_rfl
theorem laidOut:laidOutB Tryz.prog=true:=by kernel_rfl
def aMZ(k:IntKind)(w:World)(a:Option Addr)(len cap:Nat)(zs:List Int):Prop:=
 (a=none/\len=0/\cap=0/\zs=[]) \/
 ∃x,a=some x/\len<=cap/\cap<=maxLen/\zs.length=cap/\(∀i,i<zs.length->w.cell? (x.add i)=some (.int k (zs.getD i 0)))/\∀n∈zs,(Lit.int k n).wf=true
theorem aFQ{a:Option Addr}{len cap:Nat}{zs:List Int}(h:aMZ .u8 w a len cap zs):∃ys,ys.length=len/\Bts w (.slice a len cap) ys:=by
 rcases h with⟨rfl,rfl,rfl,rfl⟩ | ⟨x,rfl,o,p,r,j,f⟩
 ·exact⟨[],rfl,fun i=>by simp,_,_,rfl,fun h=>by simp at h⟩
 ·have d:(zs.take len).length=len:=by simp;omega
  refine⟨zs.take len,d,fun i=>?_,_,_,by rw[d],fun n=>?_⟩
  ·have q:=range_u8 f i
   by_cases c:i<len
   ·simp only[gD,List.getElem?_take,if_pos c];omega
   ·simp only[gD,List.getElem?_take,if_neg c];simp
  ·rw[d]at n
   obtain⟨b,off,spot⟩:=x;have m:=j 0 (by omega);have k:spot=none:=by simpa [Addr.add] using World.cell?_spot m
   subst k;refine⟨b,off,rfl,fun i c=>?_⟩;rw[d]at c;have g:=j i (by omega);have e:(({block:=b,off:=off,spot:=none}:Addr).add i)=⟨b,off+i,none⟩:=by
    unfold Addr.add;by_cases l:i=0<;>simp[l]
   rw[e]at g;rw[g];simp only[gD,List.getElem?_take,if_pos c]
theorem aGB{n:Nat}(h:n<=maxLen):n<=9223372036854775807:=by unfold maxLen at h;omega
theorem uO{fuel:Nat}{cs:List Value}{y:DataW H×List MemPlace}(h:DataW.trod enc Tryz.prog w base (fun _=>true) true fuel 22 cs=some y):
  ∃a cap zs,cs=[.slice a zs.length cap]/\zs.length<=9223372036854775807/\zs.length<=cap/\Bts w (.slice a zs.length cap) zs:=by
 have m:∃a n cap zs,cs=[.slice a n cap]/\aMZ .u8 w a n cap zs:=by
  rcases open_ints Tryz.underlying22 Tryz.underlying5 (by kernel_rfl) h with⟨b,_⟩ | ⟨x,l,c,zs,b,_,e,o,p,_,j,g⟩
  ·exact⟨_,_,_,[],b,.inl ⟨rfl,rfl,rfl,rfl⟩⟩
  ·exact⟨_,_,_,zs,b,.inr ⟨_,rfl,e,o,by simpa using p,j,g⟩⟩
 obtain⟨a,n,cap,zs,b,f⟩:=m;obtain⟨ys,e,k⟩:=aFQ f;subst e;refine⟨a,cap,ys,b,?_,?_,k⟩
 ·rcases f with⟨_,d,_⟩ | ⟨_,_,d,i,_⟩
  ·omega
  ·have:=aGB i;omega
 ·rcases f with⟨_,d,i,_⟩ | ⟨_,_,d,_⟩
  ·omega
  ·exact d
theorem aEW{b0:Nat}{r:Reach}{v:Value}{d:DataW H}{p:List MemPlace}(j:Value.okWide Tryz.prog w r b0 22 v)(h:DataW.Trod enc Tryz.prog w base (fun _=>true) true 22 v d p):
  ∃a cap zs,v=.slice a (List.length zs) cap/\zs.length<=9223372036854775807/\Bts w v zs:=by
 obtain⟨a,k,cap,rfl⟩:=okWide_slice Tryz.underlying22 j;obtain⟨c,i⟩:=h;obtain⟨l,b,zs,e,f,_,g⟩:=uO i;simp[Value.cells]at e;obtain⟨rfl,rfl,rfl⟩:=e;exact⟨a,cap,zs,rfl,f,g⟩
end Go.Proofs.YtmpagpeenjddgaaGreat
namespace Go.Proofs.YtmpagpeenjddgaaGreat
open Go.RowKit Fo
variable{f:fZ}
def doM(f:fZ)(kind tree:Int)(key val:ByteArray):fZ×An:=if kind=5 then cQ f else opM f kind tree key val
theorem aMG(h:Inv f)(a:VE f)(kind tree:Int)(key val:ByteArray):aDI f (doM f kind tree key val).1:=by
 unfold doM;split
 ·exact aJE h a
 ·have:=aMH h a kind tree key val
  exact⟨this.inv,this.ve,this.c⟩
abbrev TO:=Int×Int×ByteArray×ByteArray
def aGP(f:fZ):List TO->fZ×List An
 | []=>(f,[])
 | o :: l=>let r:=doM f o.1 o.2.1 o.2.2.1 o.2.2.2;let q:=aGP r.1 l;(q.1,r.2 :: q.2)
def gX(f:fZ)(l:List TO):fZ:=(aGP f l).1
def fJ(f:fZ)(l:List TO):List An:=(aGP f l).2
theorem lN(f:fZ)(l:List TO)(o:TO):gX f (l++[o])=(doM (gX f l) o.1 o.2.1 o.2.2.1 o.2.2.2).1/\fJ f (l++[o])=fJ f l++[(doM (gX f l) o.1 o.2.1 o.2.2.1 o.2.2.2).2]:=by
 induction l generalizing f with
 | nil=>simp[gX,fJ,aGP]
 | cons p l ih=>
  have:=ih (doM f p.1 p.2.1 p.2.2.1 p.2.2.2).1
  simp only[gX,fJ,aGP,List.cons_append]at this |-;exact⟨this.1,by rw[this.2]⟩
theorem kZ(h:Inv f)(a:VE f)(l:List TO):aDI f (gX f l):=by
 induction l generalizing f with
 | nil=>exact⟨h,a,rfl⟩
 | cons p l ih=>
  have k:=aMG h a p.1 p.2.1 p.2.2.1 p.2.2.2;have:=ih k.inv k.ve;exact⟨this.inv,this.ve,this.c.trans k.c⟩
theorem gQ(f:fZ)(l:List TO):(fJ f l).length=l.length:=by
 induction l generalizing f with
 | nil=>rfl
 | cons p l ih=>exact congrArg (·+1) (ih _)
end Go.Proofs.YtmpagpeenjddgaaGreat
namespace Go.Proofs.YtmpagpeenjddgaaGreat
open Go.RowKit Go.Shelf Fo
variable{key val:ByteArray}{kind tree:Int}{f:fZ}
theorem aHL(h:(aV f kind tree key val).2=0):kind=1\/kind=2\/kind=3\/kind=4\/kind=5\/kind=6:=by
 unfold aV at h;split at h
 ·simp at h
 ·rename_i q
  have:inB kind 1 6=true:=by simpa using q
  unfold inB at this;have:=of_decide_eq_true this;omega
theorem aBE:aV f 5 tree key val=(0,0):=by
 unfold aV;rw[if_neg (by simp[inB]),if_pos rfl]
theorem aNZ{c:Int}(hc:(aV f kind tree key val).2=c)(h:c≠0):doM f kind tree key val=(f,c,0,.empty):=by
 subst hc;unfold doM;rw[if_neg (fun e=>by subst e;rw[aBE]at h;exact h rfl)];unfold opM;rw[if_pos h]
theorem aPC(w:World)(ρ:Nat->Nat)(P:Nat)(A:Adr)(f:fZ)(J:List aS)(kind tree:Int)(key val:ByteArray)(h:St w ρ P A f J)(F:Inv f):
  Calls Tryz.prog 36 #[pT P 0,.agg #[iV kind,iV tree,.string key,.string val]] w (DoP w ρ P (doM f kind tree key val)):=by
 have il:=jS;obtain⟨M,Zf⟩:=eZ (w.heap.size);obtain⟨w1,bx⟩:=eZ (w.alloc (.cells #[iV kind,iV tree,.string key,.string val] 33));obtain⟨b,fy⟩:=eZ (w1.heap.size);obtain⟨T,de⟩:=eZ (w1.alloc (.cells #[iV 0,iV 0,.string {data:=#[]}] 31));have B1:=bAl bx;have S:=bAl de;have B2:=B1.trans (S.mono B1.size);have I:=iNw bx Zf;have B:=I.of (S.block _ I.lt);have r2:=iNw de fy;have ay:=h.below B2;have N:ρ b=0:=h.bT (by have:=B1.size;omega);have o0:T.cell? (aD M 0)=some (iV kind):=B.c rfl;have o1:T.cell? (aD M 1)=some (iV tree):=B.c rfl;have o2:T.cell? (aD M 2)=some (.string key):=B.c rfl;have o3:T.cell? (aD M 3)=some (.string val):=B.c rfl;go_enter Tryz.func36,Tryz.ntmps36;go_wp2_with fail;refine(aHM T ρ P A f J kind tree key val ay F F.sz).mono ?_;rintro e n ⟨rfl,X⟩;have B3:=B2.trans (X.mono B2.size);have G:=B.of (X.block _ B.lt);have r3:=r2.of (X.block _ r2.lt);have L:=h.below B3;have ht:=nL F (kind:=kind) (tree:=tree) (key:=key) (val:=val);have H:=aA (fun c=>aNZ (f:=f) (kind:=kind) (tree:=tree) (key:=key) (val:=val) (c:=c));have K:=aA (aHL (f:=f) (kind:=kind) (tree:=tree) (key:=key) (val:=val));obtain⟨t,U⟩:=eZ ((aV f kind tree key val).1);obtain⟨c,Z⟩:=eZ ((aV f kind tree key val).2);rw[U]at ht;rw[U,Z];have Xb:=aA U;have Y:=aA Z;clear U Z o0 o1 o2 o3;have o0:n.cell? (aD M 0)=some (iV kind):=G.c rfl;have o2:n.cell? (aD M 2)=some (.string key):=G.c rfl;have o3:n.cell? (aD M 3)=some (.string val):=G.c rfl;have u:Hid (∀(r:fZ×An) (ρ':Nat->Nat) (A':Adr) (W:List aS) (V m:World),doM f kind tree key val=r->St V ρ' P A' r.1 W->Frm (fun k=>ρ k≠0) n V->(∀x,x<n.heap.size->ρ x=0->ρ' x=0)->Frm (fun x=>x=b) V m->DoP w ρ P (doM f kind tree key val) (.returned (bZ r.2)) m):=fun r ρ' A' W V m hr hS AN o yl=>by
  rw[hr];exact⟨rfl,ρ',A',W,hS.ae (yl.wide fun x _ q=>by rw[q];exact o b r3.lt N),((Frm.aa B3).trans AN).next yl fun x hx q=>absurd q (by have:=B1.size;omega),fun x hx h0=>o x (lL hx B3.size) h0⟩
 by_cases hc:c=0
 ·subst hc
  have Hd:kind≠5->doM f kind tree key val=(if kind=1 then kQ f t key val else if kind=2 then kV f t key else if kind=3 then kP f t else if kind=4 then mG f t else mH f t key):=fun q=>by
   unfold doM;rw[if_neg q];unfold opM;rw[if_neg (by rw[Y.out];simp),Xb.out]
  have E:=aA Hd;clear Hd;rcases K.out Y.out with rfl | rfl | rfl | rfl | rfl | rfl
  ·have d:Hid (doM f 1 tree key val=kQ f t key val):=by have:=E.out (by omega);simp at this;exact this
   clear E K H;go_wp2_with fail;refine(aIK n ρ P A f J t key val L F ht).mono ?_;rintro e a ⟨rfl,ρ4,C,D,j,l,o⟩;have r4:=r3.ae l (fun q=>q N);have e0:a.cell? (aD b 0)=some (iV 0):=r4.c rfl;have p:a.cell? (aD b 1)=some (iV 0):=r4.c rfl;have s:a.cell? (aD b 2)=some (.string {data:=#[]}):=r4.c rfl;have O:=r4.frozen 0;have Q:=r4.frozen 1;have R:=r4.frozen 2;have i:=aA (fun m=>u.out _ ρ4 C D a m d.out j l o);clear d j u;generalize (kQ f t key val)=r at *;obtain⟨g,x,y,z⟩:=r;simp only[bZ]at i |-;clear G B I r3 r4;go_wp2;refine bodyPost_ret (v:=.agg #[iV x,iV y,.string z]) (by simp[bZ,results,Tryz.results36,go_sem,e0,p,s];try rfl) rfl ?_;exact i.out _ (fI _ _ _ _ _)
  ·have d:Hid (doM f 2 tree key val=kV f t key):=by have:=E.out (by omega);simp at this;exact this
   clear E K H;go_wp2_with fail;refine(yY n ρ P A f J t key L F ht).mono ?_;rintro e a ⟨rfl,ρ4,C,D,j,l,o⟩;have r4:=r3.ae l (fun q=>q N);have e0:a.cell? (aD b 0)=some (iV 0):=r4.c rfl;have p:a.cell? (aD b 1)=some (iV 0):=r4.c rfl;have s:a.cell? (aD b 2)=some (.string {data:=#[]}):=r4.c rfl;have O:=r4.frozen 0;have Q:=r4.frozen 1;have R:=r4.frozen 2;have i:=aA (fun m=>u.out _ ρ4 C D a m d.out j l o);clear d j u;generalize (kV f t key)=r at *;obtain⟨g,x,y,z⟩:=r;simp only[bZ]at i |-;clear G B I r3 r4;go_wp2;refine bodyPost_ret (v:=.agg #[iV x,iV y,.string z]) (by simp[bZ,results,Tryz.results36,go_sem,e0,p,s];try rfl) rfl ?_;exact i.out _ (fI _ _ _ _ _)
  ·have d:Hid (doM f 3 tree key val=kP f t):=by have:=E.out (by omega);simp at this;exact this
   clear E K H;go_wp2_with fail;refine(aBS n ρ P A f J t L F ht).mono ?_;rintro e a ⟨rfl,ρ4,C,D,j,l,o⟩;have r4:=r3.ae l (fun q=>q N);have e0:a.cell? (aD b 0)=some (iV 0):=r4.c rfl;have p:a.cell? (aD b 1)=some (iV 0):=r4.c rfl;have s:a.cell? (aD b 2)=some (.string {data:=#[]}):=r4.c rfl;have O:=r4.frozen 0;have Q:=r4.frozen 1;have R:=r4.frozen 2;have i:=aA (fun m=>u.out _ ρ4 C D a m d.out j l o);clear d j u;generalize (kP f t)=r at *;obtain⟨g,x,y,z⟩:=r;simp only[bZ]at i |-;clear G B I r3 r4;go_wp2;refine bodyPost_ret (v:=.agg #[iV x,iV y,.string z]) (by simp[bZ,results,Tryz.results36,go_sem,e0,p,s];try rfl) rfl ?_;exact i.out _ (fI _ _ _ _ _)
  ·have d:Hid (doM f 4 tree key val=mG f t):=by have:=E.out (by omega);simp at this;exact this
   clear E K H;go_wp2_with fail;refine(aFI n ρ P A f J t L F ht).mono ?_;rintro e a ⟨rfl,ρ4,C,D,j,l,o⟩;have r4:=r3.ae l (fun q=>q N);have e0:a.cell? (aD b 0)=some (iV 0):=r4.c rfl;have p:a.cell? (aD b 1)=some (iV 0):=r4.c rfl;have s:a.cell? (aD b 2)=some (.string {data:=#[]}):=r4.c rfl;have O:=r4.frozen 0;have Q:=r4.frozen 1;have R:=r4.frozen 2;have i:=aA (fun m=>u.out _ ρ4 C D a m d.out j l o);clear d j u;generalize (mG f t)=r at *;obtain⟨g,x,y,z⟩:=r;simp only[bZ]at i |-;clear G B I r3 r4;go_wp2;refine bodyPost_ret (v:=.agg #[iV x,iV y,.string z]) (by simp[bZ,results,Tryz.results36,go_sem,e0,p,s];try rfl) rfl ?_;exact i.out _ (fI _ _ _ _ _)
  ·have d:Hid (doM f 5 tree key val=cQ f):=by unfold doM;rw[if_pos rfl];rfl
   clear E K H;go_wp2_with fail;refine(yX n ρ P A f J L F).mono ?_;rintro e a ⟨rfl,ρ4,C,D,j,l,o⟩;have r4:=r3.ae l (fun q=>q N);have e0:a.cell? (aD b 0)=some (iV 0):=r4.c rfl;have p:a.cell? (aD b 1)=some (iV 0):=r4.c rfl;have s:a.cell? (aD b 2)=some (.string {data:=#[]}):=r4.c rfl;have O:=r4.frozen 0;have Q:=r4.frozen 1;have R:=r4.frozen 2;have i:=aA (fun m=>u.out _ ρ4 C D a m d.out j l o);clear d j u;generalize (cQ f)=r at *;obtain⟨g,x,y,z⟩:=r;simp only[bZ]at i |-;clear G B I r3 r4;go_wp2;refine bodyPost_ret (v:=.agg #[iV x,iV y,.string z]) (by simp[bZ,results,Tryz.results36,go_sem,e0,p,s];try rfl) rfl ?_;exact i.out _ (fI _ _ _ _ _)
  ·have d:Hid (doM f 6 tree key val=mH f t key):=by have:=E.out (by omega);simp at this;exact this
   clear E K H;go_wp2_with fail;refine(aIJ n ρ P A f J t key L F ht).mono ?_;rintro e a ⟨rfl,ρ4,C,D,j,l,o⟩;have r4:=r3.ae l (fun q=>q N);have e0:a.cell? (aD b 0)=some (iV 0):=r4.c rfl;have p:a.cell? (aD b 1)=some (iV 0):=r4.c rfl;have s:a.cell? (aD b 2)=some (.string {data:=#[]}):=r4.c rfl;have O:=r4.frozen 0;have Q:=r4.frozen 1;have R:=r4.frozen 2;have i:=aA (fun m=>u.out _ ρ4 C D a m d.out j l o);clear d j u;generalize (mH f t key)=r at *;obtain⟨g,x,y,z⟩:=r;simp only[bZ]at i |-;clear G B I r3 r4;go_wp2;refine bodyPost_ret (v:=.agg #[iV x,iV y,.string z]) (by simp[bZ,results,Tryz.results36,go_sem,e0,p,s];try rfl) rfl ?_;exact i.out _ (fI _ _ _ _ _)
 ·have d:=aA (H.out c Y.out hc)
  have e0:n.cell? (aD b 0)=some (iV 0):=r3.c rfl;have p:n.cell? (aD b 1)=some (iV 0):=r3.c rfl;have s:n.cell? (aD b 2)=some (.string {data:=#[]}):=r3.c rfl;have O:=r3.frozen 0;have Q:=r3.frozen 1;have R:=r3.frozen 2;have i:=aA (fun m=>u.out _ ρ A J n m d.out L (Frm.refl _ _) (fun _ _ q=>q));clear H K d;go_wp2;refine bodyPost_ret (v:=bZ (c,0,.empty)) (by simp[bZ,results,Tryz.results36,go_sem,e0,p,s];try rfl) rfl ?_;exact i.out _ (fI _ _ _ _ _)
