import Derived.WideMake
import Derived.Test.YtmpagpeenjddgaaGreatDv0
set_option maxHeartbeats 9999999
set_option maxRecDepth 99999
set_option linter.all false
namespace Go.Proofs.YtmpagpeenjddgaaGreat.Fo
variable{key val:ByteArray}{n:Int}{ces pes:List E3}{L:Loc}{H b c i s t:Nat}{f g k:fZ}
def Sy(f g:fZ):Prop:=g.m=f.m/\∀b d,co f b≠0->g.n b=some d->f.n b=some d
theorem Sy.refl(f:fZ):Sy f f:=⟨rfl,fun _ _ _ h=>h⟩
theorem Sy.co(h:Sy f g)(b:Nat):co g b=co f b:=by unfold Fo.co;rw[h.1]
theorem Sy.trans(a:Sy f g)(b:Sy g k):Sy f k:=⟨b.1.trans a.1,fun x d c e=>a.2 x d c (b.2 x d (by rw[a.co];exact c) e)⟩
theorem Sy.sub(hc:g.m=f.m)(h:∀b d,g.n b=some d->f.n b=some d):Sy f g:=⟨hc,fun b d _ a=>h b d a⟩
theorem aKG{o:Option Nd}(hc:g.m=f.m)(i:co f b=0)(h:g.n=upd f.n b o):Sy f g:=⟨hc,fun x d j a=>by
 have c:x≠b:=fun e=>j (e▸i);rw[h,aC _ _ c]at a;exact a⟩
theorem Sy.setN(f:fZ)(d:Nd)(h:Fo.co f b=0):Sy f (setN f b d):=aKG rfl h rfl
theorem Sy.takeAt(f:fZ)(d:Nd)(h:Fo.co f b=0):Sy f (takeAt f b d):=aKG rfl h rfl
theorem aEM(hc:g.m=f.m)(h:g.n=upd f.n b none):Sy f g:=.sub hc fun x d a=>by
 by_cases e:x=b
 ·rw[h,e,aD]at a;cases a
 ·rw[h,aC _ _ e]at a;exact a
theorem Sy.letGo(f:fZ)(b:Nat):Sy f (letGo f b):=by
 unfold Fo.letGo;split
 ·exact aEM rfl rfl
 ·exact .sub rfl fun _ _ h=>h
theorem Sy.setL(f:fZ)(q:Nat)(h:∀b i,L=.ai b i->Fo.co f b=0):Sy f (setL f L q):=by
 cases L with
 | inl t=>exact .sub rfl fun _ _ h=>h
 | inr a=>obtain⟨b,i⟩:=a;exact .setN f _ (h b i rfl)
theorem wE(a:shadow f L=some (g,c))(j:∀b i,L=.ai b i->co f b=0):Sy f g/\co f c=0:=by
 unfold shadow at a;split at a
 ·rename_i l;cases a;exact⟨.refl f,l.2⟩
 ·split at a
  ·cases a
  ·rename_i k
   cases a
   have h:=(aO k).2.2.2;have d:=Sy.takeAt f (look f (bK f L)) h;exact⟨(d.trans (.setL _ _ fun b i e=>by rw[d.co];exact j b i e)).trans (.letGo _ _),h⟩
theorem aEN(a:shadow f (.root t)=some (g,c)):Sy f g/\co f c=0:=wE a fun b i e=>by cases e
theorem yB(a:co f b=0)(d:shadow f (.ai b i)=some (g,c)):Sy f g/\co f c=0:=wE d fun h j e=>by cases e;exact a
theorem aAV(j:co f b=0)(a:stepDown f b key=some (g,c)):Sy f g/\co f c=0:=by
 unfold stepDown at a;have h:=Sy.setN f (2,lowK (look f b).2 key) j;cases e:shadow (setN f b (2,lowK (look f b).2 key)) (.ai b (bI (lowK (look f b).2 key) key))with
 | none=>rw[e]at a;cases a
 | some n=>
  obtain⟨g1,c1⟩:=n;rw[e]at a;obtain⟨o,p⟩:=yB (by rw[h.co];exact j) e;have d:=h.trans o;have i:co f c1=0:=by rw[<-h.co];exact p
  simp only at a
  split at a
  ·split at a
   ·cases a
   ·rename_i q
    have k:=(aO q).2.2.2;cases a;have l:=Sy.setN g1 ((look g1 c1).1,(look g1 c1).2.take 3) (b:=c1) (by rw[d.co];exact i);have m:=Sy.takeAt (Fo.setN g1 c1 ((look g1 c1).1,(look g1 c1).2.take 3)) ((look g1 c1).1,(look g1 c1).2.drop 3) (b:=aF g1) k;refine⟨d.trans ((l.trans m).trans (.setN _ _ ?_)),?_⟩
    ·rw[(l.trans m).co,d.co];exact j
    ·split
     ·exact i
     ·rw[<-d.co];exact k
  ·cases a;exact⟨d,i⟩
theorem uA:∀{h:Nat} {f:fZ} {b:Nat} {g:fZ} {th:Bool},co f b=0->putAt h f b key val=some (g,th)->Sy f g
 | 0,f,b,g,th,c,a=>by unfold putAt at a;cases a;exact .setN f _ c
 | h+1,f,b,g,th,c,a=>by
  unfold putAt at a;cases d:stepDown f b key with
  | none=>rw[d]at a;cases a
  | some i=>
   obtain⟨g1,c1⟩:=i;rw[d]at a;obtain⟨e,j⟩:=aAV c d;exact e.trans (uA (by rw[e.co];exact j) a)
theorem aNW{th:Bool}(a:put f t H key val=some (g,th)):Sy f g:=by
 unfold put at a;cases d:shadow f (.root t)with
 | none=>rw[d]at a;cases a
 | some gr=>
  obtain⟨g1,r1⟩:=gr;rw[d]at a;obtain⟨h,n⟩:=aEN d;have j:co g1 r1=0:=by rw[h.co];exact n
  simp only at a
  split at a
  ·cases c:bL g1 t r1 with
   | none=>rw[c]at a;cases a
   | some u=>
    obtain⟨w,v⟩:=u;rw[c]at a;simp only at a;unfold bL at c;split at c
    ·cases c
    ·split at c
     ·cases c
     ·rename_i o p
      have q:=(aO o).2.2.2;have k:=(aO p).2.2.2;cases c;have r:=Sy.setN g1 ((look g1 r1).1,(look g1 r1).2.take 3) j;have l:=r.trans (Sy.takeAt _ ((look g1 r1).1,(look g1 r1).2.drop 3) (b:=aF g1) q);have s:=l.trans (Sy.takeAt _ (2,[(ky (look g1 r1).2 0,.empty,(r1:Int)),(ky (look g1 r1).2 3,.empty,(aF g1:Int))]) k);have m:Sy g1 (growF g1 t r1 (look g1 r1).1 (look g1 r1).2 3 (aF g1) _ (ky (look g1 r1).2 0) (ky (look g1 r1).2 3)):=s.trans (Sy.setL _ (L:=.root t) _ fun b i e=>by cases e);exact(h.trans m).trans (uA (by rw[m.co,<-l.co];exact k) a)
  ·exact h.trans (uA j a)
theorem aEL{ses:List E3}(e:co k b=0)(hc:co k c=0)(f:co k s=0):Sy k (moveF k b c s n ces ses pes):=by
 have a:=Sy.setN k (n,ces) hc;have d:=a.trans (Sy.setN _ (n,ses) (by rw[a.co];exact f));exact d.trans (.setN _ _ (by rw[d.co];exact e))
theorem aAU(d:co k b=0)(hc:co k c=0):Sy k (mergeF k b c s n ces pes):=by
 have a:=Sy.setN k (n,ces) hc;exact(a.trans (.setN _ _ (by rw[a.co];exact d))).trans (.letGo _ _)
theorem aAT(f:co g b=0)(hc:co g c=0)(a:fillNext g b i c=some k):Sy g k:=by
 unfold fillNext at a;split at a
 ·cases e:shadow g (.ai b (i+1))with
  | none=>rw[e]at a;cases a
  | some h=>
   obtain⟨g1,s⟩:=h;rw[e]at a;obtain⟨d,j⟩:=yB f e;cases a;exact d.trans (aEL (by rw[d.co];exact f) (by rw[d.co];exact hc) (by rw[d.co];exact j))
 ·cases a;exact aAU f hc
theorem aAS(f:co g b=0)(hc:co g c=0)(a:fillLast g b i c=some k):Sy g k:=by
 unfold fillLast at a;split at a
 ·cases e:shadow g (.ai b (i-1))with
  | none=>rw[e]at a;cases a
  | some h=>
   obtain⟨g1,s⟩:=h;rw[e]at a;obtain⟨d,j⟩:=yB f e;cases a;exact d.trans (aEL (by rw[d.co];exact f) (by rw[d.co];exact j) (by rw[d.co];exact hc))
 ·cases a;exact aAU f hc
theorem aCV(m:co f b=0)(a:stepDel f b key=some (g,c)):Sy f g/\co f c=0:=by
 unfold stepDel at a;cases j:shadow f (.ai b (bI (look f b).2 key))with
 | none=>rw[j]at a;cases a
 | some n=>
  obtain⟨g1,c1⟩:=n;rw[j]at a;obtain⟨h,i⟩:=yB m j;have l:co g1 b=0:=by rw[h.co];exact m
  have e:co g1 c1=0:=by rw[h.co];exact i
  simp only at a
  split at a
  ·cases a;exact⟨h,i⟩
  ·split at a
   ·cases d:fillNext g1 b (bI (look f b).2 key) c1 with
    | none=>rw[d]at a;cases a
    | some k=>rw[d]at a;cases a;exact⟨h.trans (aAT l e d),i⟩
   ·cases d:fillLast g1 b (bI (look f b).2 key) c1 with
    | none=>rw[d]at a;cases a
    | some k=>rw[d]at a;cases a;exact⟨h.trans (aAS l e d),i⟩
theorem tZ:∀{h:Nat} {f:fZ} {b:Nat} {g:fZ},co f b=0->delAt h f t b key=some g->Sy f g
 | 0,f,b,g,d,a=>by unfold delAt at a;cases a;exact .setN f _ d
 | h+1,f,b,g,d,a=>by
  unfold delAt at a;cases j:stepDel f b key with
  | none=>rw[j]at a;cases a
  | some m=>
   obtain⟨g1,c1⟩:=m;rw[j]at a;obtain⟨c,k⟩:=aCV d j;simp only at a;split at a
   ·have n:Sy g1 (fallF g1 t (aB g1 t) (kd (look g1 b).2 0)):=(aEM rfl rfl:Sy g1 (freeB g1 (aB g1 t))).trans (.setL _ _ fun b i e=>by cases e)
    have l:=c.trans n;exact l.trans (tZ (by rw[l.co];exact k) a)
   ·exact c.trans (tZ (by rw[c.co];exact k) a)
theorem aGV(a:bU f t H key=some g):Sy f g:=by
 unfold bU at a;cases b:shadow f (.root t)with
 | none=>rw[b]at a;cases a
 | some gr=>
  obtain⟨g1,r⟩:=gr;rw[b]at a;obtain⟨c,d⟩:=aEN b;exact c.trans (tZ (by rw[c.co];exact d) a)
end Go.Proofs.YtmpagpeenjddgaaGreat.Fo
namespace Go.Proofs.YtmpagpeenjddgaaGreat
open Go.RowKit Fo
theorem aOP{f:fZ}(h:Inv f)(kind tree:Int)(key val:ByteArray):Sy f (opM f kind tree key val).1:=by
 have ht:=nK h (kind:=kind) (tree:=tree) (key:=key) (val:=val);obtain⟨b,i,_⟩:=h.hOf ht;unfold opM;split
 ·exact .refl f
 ·split
  ·unfold kS
   split
   ·exact .refl f
   ·rename_i g j a
    split
    ·exact .refl f
    ·exact aNW a
  ·split
   ·unfold kX
    split
    ·exact .refl f
    ·split
     ·exact .refl f
     ·rename_i g a
      split
      ·exact .refl f
      ·exact aGV a
   ·split
    ·unfold kR
     split
     ·exact .refl f
     ·exact .sub rfl fun _ _ q=>q
    ·split
     ·unfold mH
      split
      ·exact .refl f
      ·obtain⟨_,_,_,_,_,_,_,d,_,c⟩:=nT h ht (by omega) b.ok
       refine .sub d fun x d q=>?_;rcases c x with e | e
       ·rw[<-e];exact q
       ·rw[e]at q;cases q
     ·unfold mI
      split<;>exact .refl f
end Go.Proofs.YtmpagpeenjddgaaGreat
namespace Go.Proofs.YtmpagpeenjddgaaGreat
open Go.RowKit
variable{n s:Int}{zs:List Int}{base c g:Nat}{p:Nat×Int}{a:Option Addr}{u:Value}{w w' wr:World}
theorem set_ne(w:World)(g i j:Nat)(v:Value)(h:i≠j):(w.setCell ⟨g,i,none⟩ v).cell? ⟨g,j,none⟩=w.cell? ⟨g,j,none⟩:=World.cell?_setCell_other _ _ _ _ (by intro e;simp only[Addr.mk.injEq]at e;omega)
theorem xV(w:World)(g b i j:Nat)(v:Value)(h:b≠g):(w.setCell ⟨g,i,none⟩ v).cell? ⟨b,j,none⟩=w.cell? ⟨b,j,none⟩:=World.cell?_setCell_other _ _ _ _ (by intro e;simp only[Addr.mk.injEq]at e;omega)
def nxN(s:Int):Int:=IntKind.u64.wrap (IntKind.u64.wrap (s*6364136223846793005)+1442695040888963407)
def nxS(zs:List Int)(p:Nat×Int):Nat×Int:=(if p.1<zs.length then p.1+1 else p.1,nxN p.2)
def nxV(zs:List Int)(p:Nat×Int)(n:Int):Int:=if p.1<zs.length then wrap64 ((bits .xor .u64 (nxN p.2 / 8589934592) (IntKind.u64.wrap (zs.getD p.1 0))).tmod n)else wrap64 ((nxN p.2 / 8589934592).tmod n)
theorem nE(x:Int):0<=IntKind.u64.wrap x/\IntKind.u64.wrap x<18446744073709551616:=by simp only[IntKind.wrap,IntKind.signed,IntKind.bits];simp;omega
theorem aEO{x:Int}(hx:0<=x)(hn:0<n)(d:n<=9223372036854775807):0<=wrap64 (x.tmod n)/\wrap64 (x.tmod n)<n:=by
 rw[Int.tmod_eq_emod_of_nonneg hx];have a:=Int.emod_nonneg x (show n≠0 by omega);have b:=Int.emod_lt_of_pos x hn;have c:wrap64 (x % n)=x % n:=by unfold wrap64;omega
 rw[c];exact⟨a,b⟩
theorem aDF{a b:Int}(h1:0<=a)(h2:a<18446744073709551616)(h3:0<=b)(c:b<18446744073709551616):0<=bits .xor .u64 a b:=by
 rw[u64_xor a b h1 h2 h3 c];omega
theorem bO(zs:List Int)(p:Nat×Int)(hn:0<n)(a:n<=9223372036854775807):0<=nxV zs p n/\nxV zs p n<n:=by
 have h:=nE (IntKind.u64.wrap (p.2*6364136223846793005)+1442695040888963407);unfold nxV nxN;split
 ·exact aEO (aDF (by omega) (by omega) (nE _).1 (nE _).2) hn a
 ·exact aEO (by omega) hn a
structure dP(base g:Nat)(a:Option Addr)(c:Nat)(zs:List Int)(p:Nat×Int)(w:World):Prop where
 code:Bts w (.slice a zs.length c) zs
 old:0<zs.length->∀b off,a=some ⟨b,off,none⟩->b<base
 lo:base<=g
 len:zs.length<=1048576
 pos:p.1<=zs.length
 cells:w.cell? ⟨g,0,none⟩=some (.slice a zs.length c)/\w.cell? ⟨g,1,none⟩=some (.int .i64 p.1)/\w.cell? ⟨g,2,none⟩=some (.int .u64 p.2)/\w.frozen? ⟨g,0,none⟩=false/\w.frozen? ⟨g,1,none⟩=false/\w.frozen? ⟨g,2,none⟩=false
theorem dP.heap(h:dP base g a c zs p w)(e:w'.heap=w.heap):dP base g a c zs p w':=by
 have b:∀p:Addr,w'.cell? p=w.cell? p:=fun p=>World.cell?_of_block (by rw[e]);have d:∀p:Addr,w'.frozen? p=w.frozen? p:=fun p=>World.frozen?_of_block (by rw[e]);exact⟨h.code.kept fun _ _ _=>b _,h.old,h.lo,h.len,h.pos,by simpa only[b,d] using h.cells⟩
theorem dP.lt(h:dP base g a c zs p w):g<w.heap.size:=World.block_lt_of_cell? _ _ h.cells.1
theorem dP.ae{S:Nat->Prop}(h:dP base g a c zs p w)(k:Frm S w w')(l:¬S g)(s:∀b,S b->base<=b):dP base g a c zs p w':=by
 have j:=h.lt;have q:∀o,w'.cell? ⟨g,o,none⟩=w.cell? ⟨g,o,none⟩:=fun o=>World.cell?_of_block (k.block g j l);have r:∀o,w'.frozen? ⟨g,o,none⟩=w.frozen? ⟨g,o,none⟩:=fun o=>World.frozen?_of_block (k.block g j l);refine⟨⟨h.code.small,?_⟩,h.old,h.lo,h.len,h.pos,by simpa only[q,r] using h.cells⟩;obtain⟨_,_,d,t⟩:=h.code.shape;refine⟨_,_,d,fun n=>?_⟩;simp only[Value.slice.injEq,true_and]at d;obtain⟨rfl,rfl⟩:=d;obtain⟨b,off,rfl,f⟩:=t n;refine⟨b,off,rfl,fun i m=>(World.cell?_of_block (w:=w) (k.block b (World.block_lt_of_cell? _ _ (f i m)) fun e=>?_)).trans (f i m)⟩;have u:=s b e;have v:=h.old n b off rfl;omega
theorem dP.below(h:dP base g a c zs p w)(k:Bl w w'):dP base g a c zs p w':=h.ae (Frm.aa (S:=fun _=>False) k) (fun e=>e) (fun _ e=>e.elim)
theorem dP.stored(h:dP base g a c zs p w)(s:Int):dP base g a c zs (p.1,s) (w.setCell ⟨g,2,none⟩ (.int .u64 s))/\Frm (·=g) w (w.setCell ⟨g,2,none⟩ (.int .u64 s)):=by
 obtain⟨c0,c1,j,l,m,n⟩:=h.cells;refine⟨⟨⟨h.code.small,?_⟩,h.old,h.lo,h.len,h.pos,(set_ne _ _ _ _ _ (by decide)).trans c0,(set_ne _ _ _ _ _ (by decide)).trans c1,World.cell?_setCell_same _ _ _ j,(World.frozen?_setCell _ _ _ _).trans l,(World.frozen?_setCell _ _ _ _).trans m,(World.frozen?_setCell _ _ _ _).trans n⟩,rfl,rfl,rfl,by simp[World.setCell],fun k _ r=>Below.heap_setCell _ _ _ _ r⟩;obtain⟨_,_,d,o⟩:=h.code.shape;refine⟨_,_,d,fun e=>?_⟩;simp only[Value.slice.injEq,true_and]at d;obtain⟨rfl,rfl⟩:=d;obtain⟨b,off,rfl,f⟩:=o e;exact⟨b,off,rfl,fun i q=>(xV _ _ _ _ _ _ (by have t:=h.old e b off rfl;have u:=h.lo;omega)).trans (f i q)⟩
theorem dP.dy(h:dP base g a c zs p w)(q:Nat)(t:q<=zs.length):dP base g a c zs (q,p.2) (w.setCell ⟨g,1,none⟩ (.int .i64 q))/\Frm (·=g) w (w.setCell ⟨g,1,none⟩ (.int .i64 q)):=by
 obtain⟨c0,c1,j,l,m,n⟩:=h.cells;refine⟨⟨⟨h.code.small,?_⟩,h.old,h.lo,h.len,t,(set_ne _ _ _ _ _ (by decide)).trans c0,World.cell?_setCell_same _ _ _ c1,(set_ne _ _ _ _ _ (by decide)).trans j,(World.frozen?_setCell _ _ _ _).trans l,(World.frozen?_setCell _ _ _ _).trans m,(World.frozen?_setCell _ _ _ _).trans n⟩,rfl,rfl,rfl,by simp[World.setCell],fun k _ s=>Below.heap_setCell _ _ _ _ s⟩;obtain⟨_,_,d,o⟩:=h.code.shape;refine⟨_,_,d,fun e=>?_⟩;simp only[Value.slice.injEq,true_and]at d;obtain⟨rfl,rfl⟩:=d;obtain⟨b,off,rfl,f⟩:=o e;exact⟨b,off,rfl,fun i r=>(xV _ _ _ _ _ _ (by have u:=h.old e b off rfl;have v:=h.lo;omega)).trans (f i r)⟩
theorem aZ(base g:Nat)(a:Option Addr)(c:Nat)(zs:List Int)(p:Nat×Int)(n:Int)(hn:0<n)(F:n<=9223372036854775807)(w:World)(d:dP base g a c zs p w):
  Calls Tryz.prog 28 #[.pointer (some ⟨g,0,none⟩),.int .i64 n] w fun e w'=>e=.returned (.int .i64 (nxV zs p n))/\dP base g a c zs (nxS zs p) w'/\Frm (·=g) w w':=by
 have k:Hid (dP base g a c zs p w):=d;obtain⟨pos,s⟩:=p;have u:=d.pos;obtain⟨c0,c1,r,C,D,E⟩:=d.cells;simp only at u c1 r;have B:=d.len;have x:¬n<=0:=by omega
 have y:¬n=0:=by omega
 have A:IntKind.u64.wrap n=n:=by simp only[IntKind.wrap,IntKind.signed,IntKind.bits];simp;omega
 have K0:=fun v=>(set_ne w g 2 0 v (by decide)).trans c0;have j:=fun v=>(set_ne w g 2 1 v (by decide)).trans c1;by_cases f:pos<zs.length
 ·have t:(pos:Int) <(zs.length:Int):=by omega
  obtain⟨_,_,o,m⟩:=d.code.shape;simp only[Value.slice.injEq,true_and]at o;obtain⟨rfl,rfl⟩:=o;obtain⟨b,off,rfl,l⟩:=m (by omega);have q:b≠g:=by have:=d.old (by omega) b off rfl;have:=d.lo;omega
  have g1:=l pos f;have K2:=fun v=>(xV w g b 2 (off+pos) v q).trans g1;have h:Hid (nxV zs (pos,s) n=wrap64 ((bits .xor .u64 (nxN s / 8589934592) (IntKind.u64.wrap (zs.getD pos 0))).tmod n)):=if_pos f;have i:Hid (nxS zs (pos,s)=(pos+1,nxN s)):=by unfold nxS;rw[if_pos f];rfl
  generalize zs.getD pos 0=z at g1 K2 h;clear m l d;go_enter Tryz.func28,Tryz.ntmps28;go_wp2;go_region_held3 (fun w'=>w'.cell? ⟨g,1,none⟩=some (.int .i64 pos)/\w'.cell? ⟨g,0,none⟩=some (.slice (some ⟨b,off,none⟩) zs.length c)) (first | exact⟨j _,K0 _⟩ | go_keep | assumption) (fail);go_wp2;go_region_held3 (fun w'=>w'.cell? ⟨g,0,none⟩=some (.slice (some ⟨b,off,none⟩) zs.length c)/\w'.cell? ⟨g,1,none⟩=some (.int .i64 pos)/\w'.cell? ⟨b,off+pos,none⟩=some (.int .u8 z)) (first | exact⟨K0 _,j _,K2 _⟩ | go_keep | assumption) (fail);go_wp2;refine bodyPost_ret (by simp[results,Tryz.results28,go_sem];rfl) rfl ?_;obtain⟨r1,r2⟩:=k.out.stored (nxN s);obtain⟨r3,r4⟩:=r1.dy (pos+1) (by omega);rw[h.out,i.out];exact⟨rfl,r3.heap rfl,(r2.trans r4).trans ⟨rfl,rfl,rfl,nR _,fun _ _ _=>rfl⟩⟩
 ·have t:¬(pos:Int) <(zs.length:Int):=by omega
  have h:Hid (nxV zs (pos,s) n=wrap64 ((nxN s / 8589934592).tmod n)):=if_neg f;have i:Hid (nxS zs (pos,s)=(pos,nxN s)):=by unfold nxS;rw[if_neg f];rfl
  clear d;go_enter Tryz.func28,Tryz.ntmps28;go_wp2;go_region_held3 (fun w'=>w'.cell? ⟨g,1,none⟩=some (.int .i64 pos)/\w'.cell? ⟨g,0,none⟩=some (.slice a zs.length c)) (first | exact⟨j _,K0 _⟩ | go_keep | assumption) (fail);go_wp2;refine bodyPost_ret (by simp[results,Tryz.results28,go_sem];rfl) rfl ?_;obtain⟨r1,r2⟩:=k.out.stored (nxN s);rw[h.out,i.out];exact⟨rfl,r1.heap rfl,r2.trans ⟨rfl,rfl,rfl,nR _,fun _ _ _=>rfl⟩⟩
def bgN(zs:List Int):Nat->Int
 | 0=>1469598103934665603
 | k+1=>IntKind.u64.wrap (bits .xor .u64 (bgN zs k) (IntKind.u64.wrap (zs.getD k 0))*1099511628211)
structure Bgn(w:World)(g:Nat)(u:Value)(s:Int)(wr:World):Prop where
 res:wr.heap[w.heap.size]?=some (.cells #[.slice none 0 0,.int .i64 0,.int .u64 0] 51)
 c0:wr.cell? ⟨g,0,none⟩=some u
 c1:wr.cell? ⟨g,1,none⟩=some (.int .i64 0)
 c2:wr.cell? ⟨g,2,none⟩=some (.int .u64 s)
 free:∀o,wr.frozen? ⟨g,o,none⟩=false
 bb:Bl w wr
theorem Bgn.stored(h:Bgn w g u s wr)(b:w.heap.size<g)(a:Int):Bgn w g u a (wr.setCell ⟨g,2,none⟩ (.int .u64 a)):=
 ⟨(Below.heap_setCell _ _ _ _ (by show w.heap.size≠g;omega)).trans h.res,(set_ne _ _ _ _ _ (by decide)).trans h.c0,(set_ne _ _ _ _ _ (by decide)).trans h.c1,World.cell?_setCell_same _ _ _ h.c2,fun o=>(World.frozen?_setCell _ _ _ _).trans (h.free o),h.bb.setCell (by show w.heap.size<=g;omega) _⟩
theorem Bgn.heap(h:Bgn w g u s wr)(e:w'.heap=wr.heap)(b:w'.os=wr.os)(e2:w'.tape=wr.tape)(c:w'.output=wr.output):Bgn w g u s w':=by
 have a:∀p:Addr,w'.cell? p=wr.cell? p:=fun p=>World.cell?_of_block (by rw[e]);have d:∀p:Addr,w'.frozen? p=wr.frozen? p:=fun p=>World.frozen?_of_block (by rw[e]);exact⟨by rw[e];exact h.res,(a _).trans h.c0,(a _).trans h.c1,(a _).trans h.c2,fun o=>(d _).trans (h.free o),h.bb.trans ⟨b,e2,c,by rw[e];exact nR _,fun k _=>by rw[e]⟩⟩
theorem aFQ(a:Option Addr)(c:Nat)(zs:List Int)(w:World)(D:Bts w (.slice a zs.length c) zs)(L:zs.length<=1048576):
  Calls Tryz.prog 16 #[.slice a zs.length c] w fun e w'=>e=.returned (.agg #[.slice a zs.length c,.int .i64 0,.int .u64 (bgN zs zs.length)])/\Bl w w':=by
 have m:Hid (∀t,Bgn w (w.heap.size+1) (.slice a zs.length c) 1469598103934665603 ((w.alloc (.cells #[.slice none 0 0,.int .i64 0,.int .u64 0] 51)).alloc (.cells #[.slice a zs.length c,.int .i64 0,.int .u64 1469598103934665603] t))):=fun t=>by
  refine⟨?_,?_,?_,?_,fun i=>?_,((bQ _ _).alloc (nR _) _).alloc (by simp) _⟩
  ·rw[Below.heap_alloc _ _ _ (by simp)];exact heap_alloc_new w _
  ·rw[World.cell?_alloc_at _ _ _ _ (by simp)];rfl
  ·rw[World.cell?_alloc_at _ _ _ _ (by simp)];rfl
  ·rw[World.cell?_alloc_at _ _ _ _ (by simp)];rfl
  ·rw[World.frozen?_alloc_at _ _ _ _ (by simp)]
 go_enter Tryz.func16,Tryz.ntmps16
 go_wp2
 go_loopw [4] (fun i wr=>∃k:Nat,k<=zs.length/\i=.int .i64 k/\Bgn w (w.heap.size+1) (.slice a zs.length c) (bgN zs k) wr) (fun i _=>zs.length -(intOf i).toNat)
 case atStart=>exact⟨0,Nat.zero_le _,rfl,m.out _⟩
 case round=>
  obtain⟨k,K,rfl,d⟩:=hrel;clear m;by_cases u:k<zs.length
  ·have C:(k:Int) <(zs.length:Int):=by omega
   obtain⟨_,_,o,n⟩:=D.shape;simp only[Value.slice.injEq,true_and]at o;obtain⟨rfl,rfl⟩:=o;obtain⟨b,off,rfl,g⟩:=n (by omega);have E:b<w.heap.size:=World.block_lt_of_cell? _ _ (g 0 (by omega));have g1:wr.cell? ⟨b,off+k,none⟩=some (.int .u8 (zs.getD k 0)):=(d.bb.cell (p:=⟨b,off+k,none⟩) E).trans (g k u);have h:=d.c2;have J:=d.free 2;have l:Hid (Bgn w (w.heap.size+1) (.slice (some ⟨b,off,none⟩) zs.length c) (bgN zs k) wr):=d;have f:Hid (bgN zs (k+1)=IntKind.u64.wrap (bits .xor .u64 (bgN zs k) (IntKind.u64.wrap (zs.getD k 0))*1099511628211)):=rfl;generalize zs.getD k 0=z at g1 f;generalize bgN zs k=s at h l f;clear d g n;go_wp2;go_region_law (fail)
   all_goals go_wp2
   all_goals go_roundw
   all_goals first | exact⟨k+1,by omega,by go_num,by rw[f.out];exact(l.out.stored (by omega) _).heap rfl rfl rfl rfl⟩ | (simp[intOf];omega)
  ·have C:¬(k:Int) <(zs.length:Int):=by omega
   obtain rfl:k=zs.length:=by omega
   have h:=d.c2;have c0:=d.c0;have c1:=d.c1;have I:=d.bb;have F:wr.cell? ⟨w.heap.size,0,none⟩=some (.slice none 0 0):=by simp[World.cell?,d.res]
   have G:wr.cell? ⟨w.heap.size,1,none⟩=some (.int .i64 0):=by simp[World.cell?,d.res]
   have H:wr.cell? ⟨w.heap.size,2,none⟩=some (.int .u64 0):=by simp[World.cell?,d.res]
   have M:∀j,wr.frozen? ⟨w.heap.size,j,none⟩=false:=fun j=>frozen_of_row wr w.heap.size j _ _ d.res;have r:=fun x y z=>((I.setCell (p:=⟨w.heap.size,0,none⟩) (nR _) x).setCell (p:=⟨w.heap.size,1,none⟩) (nR _) y).setCell (p:=⟨w.heap.size,2,none⟩) (nR _) z;have e0:=fun x=>World.cell?_setCell_same wr ⟨w.heap.size,0,none⟩ x F;have A:=fun x y=>World.cell?_setCell_same (wr.setCell ⟨w.heap.size,0,none⟩ x) ⟨w.heap.size,1,none⟩ y ((set_ne _ _ _ _ _ (by decide)).trans G);have B:=fun x y z=>World.cell?_setCell_same ((wr.setCell ⟨w.heap.size,0,none⟩ x).setCell ⟨w.heap.size,1,none⟩ y) ⟨w.heap.size,2,none⟩ z (((set_ne _ _ _ _ _ (by decide)).trans (set_ne _ _ _ _ _ (by decide))).trans H);obtain⟨s,q⟩:∃s,Hid (bgN zs zs.length=s):=⟨_,rfl⟩;rw[q.out]at h;clear d;go_wp2;exact bodyPost_ret (v:=.agg #[.slice a zs.length c,.int .i64 0,.int .u64 s]) (by simp[results,Tryz.results16,go_sem,e0,A,B]) rfl ⟨by rw[q.out],r _ _ _⟩
end Go.Proofs.YtmpagpeenjddgaaGreat
namespace Go.Proofs.YtmpagpeenjddgaaGreat
open Go.RowKit Fo
variable{a:Act}{l:Array Bool}{ops:Array Oper}{i k m n:Nat}{o:Oper}{w w' w0:World}
def Is(B:Nat)(w:World)(r:Nat)(cs:Array Value)(t:TypeId):Prop:=B<=r/\w.heap[r]?=some (.cells cs t (0,0))
def aKT(w:World)(m p:Nat):Prop:=(∃es c,w.heap[m]?=some (.map es c))/\dU w m (upd (fun _=>none) 2 (some p))
def FF(B n:Nat)(w:World)(t:Nat->Value)(l5:Bool):Nat->Prop
 | 0=>t 4=.agg #[.int .i64 0,.int .i64 2]
 | 1=>∃r,t 5=.slice (some ⟨r,0,none⟩) 1 1/\Is B w r #[.int .i64 0,.int .i64 2] 92
 | 2=>∃m,t 6=.map (some m)/\B<=m/\(∃es c,w.heap[m]?=some (.map es c))/\(l5=false->w.heap[m]?=some (.map #[] 0))
 | 3=>t 7=.agg #[.int .i64 1,.slice none 0 0]
 | 4=>∃p,t 8=.pointer (some ⟨p,0,none⟩)/\Is B w p #[.int .i64 1,.slice none 0 0] 96
 | 5=>∃m p,t 6=.map (some m)/\t 8=.pointer (some ⟨p,0,none⟩)/\aKT w m p
 | 6=>t 9=t 6
 | 7=>t 10=.int .i64 n
 | 8=>∃c,t 11=.slice (some ⟨c,0,none⟩) n n/\Is B w c (dI (List.replicate n 0)) 2
 | 9=>t 12=.int .i64 n
 | 10=>∃d,t 13=.slice (some ⟨d,0,none⟩) n n/\Is B w d (dI (List.replicate n 0)) 2
 | 11=>∃q,t 14=.slice (some ⟨q,0,none⟩) 1 1/\Is B w q #[.int .i64 3] 2
 | 12=>t 15=.agg #[t 5,.int .i64 1,.int .i64 1,t 9,t 11,t 13,t 14,.slice none 0 0]
 | 13=>∃f cs,t 15=.agg cs/\t 16=.pointer (some ⟨f,0,none⟩)/\Is B w f cs 67
 | 14=>t 3=t 16
 | _=>True
def fU:List (List Nat):=[[4],[5],[6],[7],[8],[6,8],[9,6],[10],[11],[12],[13],[14],[15,5,9,11,13,14],[15,16],[3,16]]
def KpZ(w w':World)(ok:Prop):Prop:=(∀(g:Nat) cs t fr,w.heap[g]?=some (Obj.cells cs t fr)->w'.heap[g]?=some (Obj.cells cs t fr))/\(∀(g:Nat) es c,w.heap[g]?=some (Obj.map es c)->∃es c,w'.heap[g]?=some (Obj.map es c))/\(ok->∀(g:Nat) es c,w.heap[g]?=some (Obj.map es c)->w'.heap[g]?=some (Obj.map es c))
theorem KpZ.below(h:Bl w w'):KpZ w w' True:=
 ⟨fun g _ _ _ e=>(h.block g (Array.getElem?_eq_some_iff.1 e).1).trans e,fun g es c e=>⟨es,c,(h.block g (Array.getElem?_eq_some_iff.1 e).1).trans e⟩,fun _ g _ _ e=>(h.block g (Array.getElem?_eq_some_iff.1 e).1).trans e⟩
theorem FF.bp{B:Nat}{t t':Nat->Value}{l l':Bool}(h:FF B n w t l k)(y:l'=false->l=false/\True)(a:∀s∈fU.getD k [],t' s=t s)(x:KpZ w w' (k=5\/l'=false)):FF B n w' t' l' k:=by
 obtain⟨g,z,o⟩:=x;match k with
 | 0=>exact(a 4 (by simp[fU])).trans h
 | 1=>obtain⟨r,e,b,d⟩:=h;exact⟨r,(a 5 (by simp[fU])).trans e,b,g _ _ _ _ d⟩
 | 2=>obtain⟨m,e,b,⟨es,c,d⟩,v⟩:=h;exact⟨m,(a 6 (by simp[fU])).trans e,b,z _ _ _ d,fun q=>o (.inr q) _ _ _ (v (y q).1)⟩
 | 3=>exact(a 7 (by simp[fU])).trans h
 | 4=>obtain⟨r,e,b,d⟩:=h;exact⟨r,(a 8 (by simp[fU])).trans e,b,g _ _ _ _ d⟩
 | 5=>obtain⟨m,p,i,j,⟨es,c,b⟩,d⟩:=h;exact⟨m,p,(a 6 (by simp[fU])).trans i,(a 8 (by simp[fU])).trans j,⟨es,c,o (.inl rfl) _ _ _ b⟩,d.of ((o (.inl rfl) _ _ _ b).trans b.symm)⟩
 | 6=>exact((a 9 (by simp[fU])).trans h).trans (a 6 (by simp[fU])).symm
 | 7=>exact(a 10 (by simp[fU])).trans h
 | 8=>obtain⟨r,e,b,d⟩:=h;exact⟨r,(a 11 (by simp[fU])).trans e,b,g _ _ _ _ d⟩
 | 9=>exact(a 12 (by simp[fU])).trans h
 | 10=>obtain⟨r,e,b,d⟩:=h;exact⟨r,(a 13 (by simp[fU])).trans e,b,g _ _ _ _ d⟩
 | 11=>obtain⟨r,e,b,d⟩:=h;exact⟨r,(a 14 (by simp[fU])).trans e,b,g _ _ _ _ d⟩
 | 12=>
  have u:t 15=.agg #[t 5,.int .i64 1,.int .i64 1,t 9,t 11,t 13,t 14,.slice none 0 0]:=h;show t' 15=.agg #[t' 5,.int .i64 1,.int .i64 1,t' 9,t' 11,t' 13,t' 14,.slice none 0 0]
  rw[a 15 (by simp[fU]),a 5 (by simp[fU]),a 9 (by simp[fU]),a 11 (by simp[fU]),a 13 (by simp[fU]),a 14 (by simp[fU])];exact u
 | 13=>obtain⟨f,cs,i,j,b,d⟩:=h;exact⟨f,cs,(a 15 (by simp[fU])).trans i,(a 16 (by simp[fU])).trans j,b,g _ _ _ _ d⟩
 | 14=>exact((a 3 (by simp[fU])).trans h).trans (a 16 (by simp[fU])).symm
 | k+15=>trivial
structure FI(w0:World)(n:Nat)(l:Array Bool)(a:Act)(w:World):Prop where
 size:a.tmps.size=33
 defers:a.defers=[]
 arg:a.tmps.getD 0 undef=.int .i64 n
 below:Bl w0 w
 facts:∀k,l.getD k false=true->FF w0.heap.size n w (fun s=>a.tmps.getD s undef) (l.getD 5 false) k
 apart:l.getD 8 false=true->l.getD 10 false=true->a.tmps.getD 11 undef≠a.tmps.getD 13 undef
def aII(ops:Array Oper):Bool:=(List.range 15).all fun k=>(fU.getD k []).all fun s=>(List.range 15).all fun i=>i == k || (((ops[i]?).bind (·.dst)) != some s) || (((ops[k]?).map fun o=>o.after.toList.any fun e=>Region.binds .any e && e.on == i).getD false)
theorem aLP(hd:aII ops=true)(g:aKR .any ops l)(n:i<15)(p:k<15)(c:l.getD k false=true)(hn:l.getD i false=false)(q:ops[i]?=some o){s:Nat}(r:s∈fU.getD k []):o.dst≠some s:=by
 intro m;have t:i≠k:=fun e=>by subst e;rw[c]at hn;cases hn
 have h:=List.all_eq_true.1 hd k (List.mem_range.2 p);have j:=List.all_eq_true.1 h s r;have a:=List.all_eq_true.1 j i (List.mem_range.2 n);rw[q]at a;simp only[Option.bind_some,m,bne_self_eq_false,Bool.or_false,Bool.or_eq_true,beq_iff_eq]at a;rcases a with a | a
 ·exact t a
 ·cases b:ops[k]? with
  | none=>simp[b]at a
  | some u=>
   simp only[b,Option.map_some,Option.getD_some,List.any_eq_true,Bool.and_eq_true,beq_iff_eq]at a;obtain⟨e,d,v,f⟩:=a;have:=g k c u b e (by simpa using d) v;rw[f,hn]at this;cases this
theorem aMC(a:Act)(d s:Nat)(v:Value)(h:d<a.tmps.size):(a.put (some d) v).tmps.getD s undef=if s=d then v else a.tmps.getD s undef:=by
 simp only[Act.put,Array.getD_eq_getD_getElem?,Array.getElem?_setIfInBounds];by_cases e:d=s
 ·subst e;simp[h]
 ·rw[if_neg e,if_neg (Ne.symm e)]
theorem FI.next(h:FI w0 n l a w)(hd:aII ops=true)(q:aKR .any ops l)(C:ops[i]?=some o)(B:i<15)(G:l.size=15)(F:l.getD i false=false)(x:i≠5)
  (d:Nat) (p:o.dst=some d) (H:d<33) (j:d≠0) (v:Value) (w':World) (c:Bl w w')
  (z:FF w0.heap.size n w' (fun s=>if s=d then v else a.tmps.getD s undef) (l.getD 5 false) i)
  (E:(l.setIfInBounds i true).getD 8 false=true->(l.setIfInBounds i true).getD 10 false=true->(if 11=d then v else a.tmps.getD 11 undef)≠(if 13=d then v else a.tmps.getD 13 undef)):
  FI w0 n (l.setIfInBounds i true) (a.put (some d) v) w':=by
 have r:=h.size;have b:=fun s=>aMC a d s v (by omega);have t:(l.setIfInBounds i true).getD 5 false=l.getD 5 false:=getD_set_ne false x;refine⟨by simp[Act.put,r],h.defers,?_,h.below.trans (c.mono h.below.size),fun k f=>?_,fun y u=>?_⟩
 ·rw[b,if_neg (Ne.symm j)];exact h.arg
 ·rw[t]
  by_cases g:i=k
  ·subst g
   have:(fun s=>(a.put (some d) v).tmps.getD s undef)=fun s=>if s=d then v else a.tmps.getD s undef:=funext b
   rw[this];exact z
  ·rw[getD_set_ne false g]at f
   have m:k<15:=by
    by_cases A:k<15
    ·exact A
    ·simp[Array.getElem?_eq_none (show l.size<=k by omega)]at f
   refine(h.facts k f).bp (fun e=>⟨e,trivial⟩) (fun s D=>?_) ⟨(KpZ.below c).1,(KpZ.below c).2.1,fun _=>(KpZ.below c).2.2 trivial⟩;have:=aLP hd q B m f F C D;rw[b,if_neg (fun e=>this (by rw[e];exact p))]
 ·rw[b,b];exact E y u
theorem FI.au(h:FI w0 n l a w)(i d:Nat)(v:Value)(f:i≠8)(e:i≠10)(b:11≠d)(c:13≠d):
  (l.setIfInBounds i true).getD 8 false=true->(l.setIfInBounds i true).getD 10 false=true->(if 11=d then v else a.tmps.getD 11 undef)≠(if 13=d then v else a.tmps.getD 13 undef):=by
 rw[getD_set_ne false f,getD_set_ne false e,if_neg b,if_neg c];exact h.apart
theorem FI.ins(h:FI w0 n l a w)(u:l.size=15)(F:l.getD 5 false=false)(w':World)(m p:Nat)
  (A:a.tmps.getD 6 undef=.map (some m)) (B:a.tmps.getD 8 undef=.pointer (some ⟨p,0,none⟩)) (y:w0.heap.size<=m) (o:aKT w' m p) (d:Upd m (m+1) w w') (he:w.heap[m]?=some (.map #[] 0)):
  FI w0 n (l.setIfInBounds 5 true) a w':=by
 have C:m<w.heap.size:=(Array.getElem?_eq_some_iff.1 he).1;have v:(l.setIfInBounds 5 true).getD 5 false=true:=by simp[u]
 have r:KpZ w w' False:=by
  refine⟨fun g cs t E b=>?_,fun g es c b=>?_,fun z=>z.elim⟩
  ·have D:g≠m:=fun e=>by subst e;rw[he]at b;cases b
   exact(d.block g (Array.getElem?_eq_some_iff.1 b).1 (by omega)).trans b
  ·by_cases e:g=m
   ·subst e;obtain⟨⟨es,c,x⟩,_⟩:=o;exact⟨es,c,x⟩
   ·exact⟨es,c,(d.block g (Array.getElem?_eq_some_iff.1 b).1 (by omega)).trans b⟩
 refine⟨h.size,h.defers,h.arg,h.below.trans (d.below y h.below.size),fun k q=>?_,fun j i=>?_⟩
 ·rw[v]
  by_cases f:5=k
  ·subst f;exact⟨m,p,A,B,o⟩
  ·rw[getD_set_ne false f]at q
   exact(h.facts k q).bp (fun e=>by cases e) (fun s _=>rfl) ⟨r.1,r.2.1,fun e=>by rcases e with e | e;exact absurd e.symm f;cases e⟩
 ·rw[getD_set_ne false (show(5:Nat)≠8 by omega)]at j
  rw[getD_set_ne false (show(5:Nat)≠10 by omega)]at i;exact h.apart j i
theorem map_none(he:w.heap[m]?=some (.map #[] 0)):dU w m (fun _=>none):=by
 refine⟨.map [],⟨#[],0,he,⟨by simp,MapKept.stamped_empty 0,by simp⟩,by simp[Maps.size],rfl⟩,?_,fun b _=>rfl,fun b _=>rfl⟩;have z:∀n,cY n (fun b=>if((fun _=>none:Nat->Option Nat) b).isSome then 1 else 0)=0:=fun n=>by
  induction n with
  | zero=>rfl
  | succ n ih=>simp only[cY];rw[ih];rfl
 exact(z 512).symm
theorem aLY{p:Nat}(he:w.heap[m]?=some (.map #[] 0)):
  ∃w',(Instr.mapUpdate 64 (.map (some m)) (.int .i64 2) (.pointer (some ⟨p,0,none⟩))).run Tryz.prog w=.ok () w'/\aKT w' m p/\Upd m (m+1) w w':=by
 obtain⟨w',e,a,hF⟩:=(map_none he).put 2 p (by omega);refine⟨w',e,⟨?_,a⟩,⟨hF.os,hF.tape,hF.output,hF.size,fun k d f=>hF.block k d (by omega)⟩⟩
 ·obtain⟨D,⟨es,c,b,_⟩,_⟩:=a
  exact⟨es,c,b⟩
end Go.Proofs.YtmpagpeenjddgaaGreat
namespace Go.Proofs.YtmpagpeenjddgaaGreat
open Go.RowKit Fo
variable{i:Nat}{f:fZ}
abbrev o0:TO:=(0,0,.empty,.empty)
abbrev a0:An:=(0,0,.empty)
def mG(l:List TO)(a:List An):Nat->Nat
 | 0=>0
 | i+1=>if(l.getD i o0).1=5/\(a.getD i a0).1=0 then i+1 else mG l a i
def xH(o:TO)(a:An)(r:List Int):List Int:=if a.1≠0 then r else if o.1=3 then r++[a.2.1]else if o.1=4 then r.filter (fun x=>decide (x≠o.2.1))else r
def iY(l:List TO)(a:List An):Nat->List Int
 | 0=>[0]
 | i+1=>xH (l.getD i o0) (a.getD i a0) (iY l a i)
theorem aDN(l:List TO)(a:List An):∀i,mG l a i<=i
 | 0=>nR _
 | i+1=>by unfold mG;split;exact nR _;exact lT (aDN l a i) (Nat.le_succ i)
theorem pS{α:Type}{l:List α}(z:α)(h:i<l.length):l.take (i+1)=l.take i++[l.getD i z]:=by
 rw[List.take_add_one,gD,gE h];rfl
theorem aJX(f:fZ)(l m:List TO):fF f (l++m)=fF f l++fF (gZ f l) m:=by
 induction l generalizing f with
 | nil=>rfl
 | cons p l ih=>exact congrArg _ (ih _)
theorem aEG(f:fZ)(l:List TO)(h:i<l.length):(fF f l).getD i a0=(doM (gZ f (l.take i)) (l.getD i o0).1 (l.getD i o0).2.1 (l.getD i o0).2.2.1 (l.getD i o0).2.2.2).2:=by
 have b:=List.take_append_drop (i+1) l;have a:=aJX f (l.take (i+1)) (l.drop (i+1));rw[b]at a;have c:(fF f (l.take i)).length=i:=by rw[gS,List.length_take];omega
 rw[a,gD,List.getElem?_append_left (by rw[gS,List.length_take];omega),pS o0 h,(lQ _ _ _).2,List.getElem?_append_right (by omega),c,Nat.sub_self];rfl
theorem aOO(h:Inv f)(o:TO)(hn:¬(o.1=5/\(doM f o.1 o.2.1 o.2.2.1 o.2.2.2).2.1=0)):Sy f (doM f o.1 o.2.1 o.2.2.1 o.2.2.2).1:=by
 by_cases e:o.1=5
 ·have a:¬(doM f o.1 o.2.1 o.2.2.1 o.2.2.2).2.1=0:=fun q=>hn ⟨e,q⟩
  revert a
  unfold doM;rw[if_pos e];unfold cS;split
  ·intro _;exact .refl f
  ·split
   ·intro _;exact .refl f
   ·intro q;exact absurd rfl q
 ·unfold doM;rw[if_neg e];exact aOP h _ _ _ _
theorem aHZ(h:Inv f)(a:VE f)(l:List TO):∀i,i<=l.length->Sy (gZ f (l.take (mG l (fF f l) i))) (gZ f (l.take i))
 | 0,_=>.refl _
 | i+1,c=>by
  unfold mG;split
  ·exact .refl _
  ·rename_i b
   refine(aHZ h a l i (by omega)).trans ?_;rw[pS o0 (by omega),(lQ _ _ _).1];rw[aEG f l (by omega)]at b;exact aOO (lC h a _).inv _ b
theorem aLS{l:List (Int×Int)}(f:∀i j,i<j->j<l.length->(l.getD i (0,0)).1 <(l.getD j (0,0)).1){t:Nat}(ht:t<l.length):(delE l t).map Prod.fst=(l.map Prod.fst).filter (fun x=>decide (x≠(l.getD t (0,0)).1)):=by
 have m:l.getD t (0,0)=l[t]:=by rw[gD,gE ht];rfl
 have e:l=l.take t++l[t] :: l.drop (t+1):=by rw[List.getElem_cons_drop,List.take_append_drop]
 have g:((l.take t).map Prod.fst).filter (fun x=>decide (x≠(l.getD t (0,0)).1))=(l.take t).map Prod.fst:=List.filter_eq_self.2 fun x d=>by
  obtain⟨p,c,rfl⟩:=List.mem_map.1 d;obtain⟨i,b,rfl⟩:=List.mem_iff_getElem.1 c;have a:i<t:=by simp at b;omega
  have:=f i t a ht
  rw[gD,gE (by omega)]at this;simp only[Option.getD_some]at this;simp only[List.getElem_take,decide_eq_true_eq];omega
 have h:((l.drop (t+1)).map Prod.fst).filter (fun x=>decide (x≠(l.getD t (0,0)).1))=(l.drop (t+1)).map Prod.fst:=List.filter_eq_self.2 fun x d=>by
  obtain⟨p,c,rfl⟩:=List.mem_map.1 d;obtain⟨i,b,rfl⟩:=List.mem_iff_getElem.1 c;have a:t+1+i<l.length:=by simp at b;omega
  have:=f t (t+1+i) (by omega) a
  rw[gD (i:=t+1+i),gE a]at this;simp only[Option.getD_some]at this;simp only[List.getElem_drop,decide_eq_true_eq];omega
 have k:(l.map Prod.fst).filter (fun x=>decide (x≠(l.getD t (0,0)).1))=((l.take t++l[t] :: l.drop (t+1)).map Prod.fst).filter (fun x=>decide (x≠(l.getD t (0,0)).1)):=by rw[<-e]
 rw[k,List.map_append,List.map_cons,List.filter_append,List.filter_cons,g,h,m];simp[delE]
theorem aBE{tree:Int}{key val:ByteArray}(h:(aT f 4 tree key val).2=0):atT f tree=some (aT f 4 tree key val).1:=by
 revert h
 unfold aT;split
 ·intro h;first | omega | simp at h
 ·split
  ·rename_i a;intro _;omega
  ·split
   ·intro h;simp at h
   ·rename_i t ht
    split
    ·intro h;simp at h
    ·intro _;exact ht
theorem aNL(h:Inv f)(o:TO):(doM f o.1 o.2.1 o.2.2.1 o.2.2.2).1.r.map Prod.fst=xH o (doM f o.1 o.2.1 o.2.2.1 o.2.2.2).2 (f.r.map Prod.fst):=by
 obtain⟨k,tree,key,val⟩:=o;have ht:=nK h (kind:=k) (tree:=tree) (key:=key) (val:=val);obtain⟨l,n,_⟩:=h.hOf ht;have d:∀a:An,(a.1≠0\/(k≠3/\k≠4))->xH (k,tree,key,val) a (f.r.map Prod.fst)=f.r.map Prod.fst:=fun a e=>by
  unfold xH;rcases e with e | ⟨e,s⟩
  ·rw[if_pos e]
  ·rw[if_neg (show ¬(k,tree,key,val).1=3 from e),if_neg (show ¬(k,tree,key,val).1=4 from s)]
   split<;>rfl
 simp only
 unfold doM;split
 ·rename_i x
  rw[d _ (.inr ⟨by omega,by omega⟩)];unfold cS;split
  ·rfl
  ·split<;>rfl
 ·unfold opM
  split
  ·rename_i e;rw[d _ (.inl e)]
  ·rename_i e
   have q:(aT f k tree key val).2=0:=by omega
   split
   ·rename_i i
    rw[d _ (.inr ⟨by omega,by omega⟩)];unfold kS;split
    ·rfl
    ·rename_i g y m
     split
     ·rfl
     ·obtain⟨p,a,b,c⟩:=xQ l n m;exact c.ids
   ·split
    ·rename_i i
     rw[d _ (.inr ⟨by omega,by omega⟩)];unfold kX;split
     ·rfl
     ·rename_i v t
      have u:=jQ l.ok t;split
      ·rfl
      ·rename_i g m
       split
       ·rfl
       ·obtain⟨p,a,b,c⟩:=pQ l n u m;exact c.ids
    ·split
     ·rename_i i
      unfold kR;split
      ·rw[d _ (.inl (by simp))]
      ·simp[xH,i,cU]
     ·split
      ·rename_i i
       unfold mH;split
       ·rw[d _ (.inl (by simp))]
       ·subst i
        obtain⟨_,_,_,_,w,_⟩:=nT h ht (by omega) l.ok;have j:=(mO (aBE q)).2;simp only[w,xH];rw[aLS h.ids ht];simp only[ne_eq,not_true,if_false,if_true];rw[if_neg (by omega)];unfold rid at j;rw[j]
      ·rename_i r j
       rw[d _ (.inr ⟨r,j⟩)];unfold mI;split<;>rfl
theorem aCG(h:Inv f)(b:VE f)(a:f.r.map Prod.fst=[0])(l:List TO):∀i,i<=l.length->iY l (fF f l) i=(gZ f (l.take i)).r.map Prod.fst
 | 0,_=>a.symm
 | i+1,c=>by
  unfold iY;rw[aCG h b a l i (by omega),aEG f l (by omega),pS o0 (by omega),(lQ _ _ _).1];exact(aNL (lC h b _).inv _).symm
end Go.Proofs.YtmpagpeenjddgaaGreat
namespace Go.Proofs.YtmpagpeenjddgaaGreat.Fo
variable{b:Nat}{f:fZ}
theorem wH{c:Nat}{x y:Int}(h:fD f b x=fD f c y):b=c:=by
 have:=congrArg Prod.fst h
 simp only[fD]at this;omega
theorem wJ:∀{h r:Nat} {lo hi:OB},Ok f.n h r lo hi->∀{x dp:Int} {y b:Nat},fD f y dp∈cK f h r x->b∈kids (look f y)->∃dp',fD f b dp'∈cK f h r x
 | 0,r,lo,hi,k,x,dp,y,b,a,c=>by
  obtain⟨es,d,_⟩:=k;simp only[cK,List.mem_singleton]at a;rw[wH a,cP d]at c;simp[kids]at c
 | h+1,r,lo,hi,k,x,dp,y,b,a,c=>by
  obtain⟨es,d,m,n,o,i⟩:=k;simp only[cK,cP d,List.mem_cons,List.mem_flatMap]at a |-;rcases a with a | ⟨e,g,a⟩
  ·rw[wH a,cP d]at c
   obtain⟨_,e,g,rfl⟩:=cM c;refine⟨x+1,.inr ⟨e,g,?_⟩⟩;cases h<;>simp[cK]
  ·obtain⟨j,l,rfl⟩:=cO g
   obtain⟨dp',q⟩:=wJ (i j l).2 a c;exact⟨dp',.inr ⟨_,g,q⟩⟩
theorem uF:∀{h r:Nat} {lo hi:OB},Ok f.n h r lo hi->∀{x:Int} {v:VW},v∈cK f h r x->∃b d dp,f.n b=some d/\v=fD f b dp
 | 0,r,lo,hi,k,x,v,a=>by
  obtain⟨es,c,_⟩:=k;simp only[cK,List.mem_singleton]at a;exact⟨r,_,x,c,a⟩
 | h+1,r,lo,hi,k,x,v,a=>by
  obtain⟨es,c,m,n,o,g⟩:=k;simp only[cK,cP c,List.mem_cons,List.mem_flatMap]at a;rcases a with a | ⟨e,i,a⟩
  ·exact⟨r,_,x,c,a⟩
  ·obtain⟨j,l,rfl⟩:=cO i
   exact uF (g j l).2 a
theorem aJZ(c:Inv f){d:Nd}(hd:f.n b=some d):∃t,t<f.r.length/\∃dp,fD f b dp∈shp f (aB f t):=by
 obtain⟨ht,A⟩:=c.ic.ht;obtain⟨M,z⟩:=aIQ ht f.c.length;have j:∀k x d,f.n x=some d->M-ht x=k->∃t,t<f.r.length/\∃dp,fD f x dp∈shp f (aB f t):=by
  intro k;induction k using Nat.strongRecOn with
  | ind k ih=>
   intro x d hd L;have D:=c.ic.lt hd;have J:=c.ic.names D;have K:=c.ic.a1 hd;by_cases C:0<rc f.r x
   ·have B:x∈f.r.map fun r=>r.2.toNat:=List.count_pos_iff.1 C
    obtain⟨t,i,e⟩:=List.mem_iff_getElem.1 B;have o:t<f.r.length:=by simpa using i
    refine⟨t,o,0,?_⟩;have w:aB f t=x:=by
     rw[<-e];unfold aB;rw[gD,gE o];simp
    rw[w];unfold shp;exact List.mem_cons_self
   ·have v:0<deg f.n f.c.length x:=by omega
    obtain⟨y,E,g⟩:=iP v;cases a:f.n y with
    | none=>rw[a]at g;simp[bZ]at g
    | some m=>
     rw[a]at g;have n:x∈kids m:=List.count_pos_iff.1 g;have H:ht x+1=ht y:=by
      rcases A y m a with⟨q,_⟩ | ⟨_,q⟩
      ·simp[kids,q]at n
      ·exact q x n
     have I:=z y E;obtain⟨t,i,dp,s⟩:=ih (M-ht y) (by omega) y m a rfl;obtain⟨h,u,F⟩:=c.ok t i;obtain⟨p,_⟩:=xW c.ic u F;rw[p]at s;obtain⟨l,G⟩:=wJ u s (by rw[cP a];exact n);exact⟨t,i,l,by rw[p];exact G⟩
 exact j _ b d hd rfl
theorem aCR{g:fZ}(q:Inv f)(c:Inv g)(p:Sy f g){t:Nat}(ht:t<g.r.length){v:VW}(j:v∈shp g (aB g t)):2<=v.1/\v.1<g.c.length/\(co f v.1.toNat=0\/∃t',t'<f.r.length/\∃u∈shp f (aB f t'),u.1=v.1/\u.2.2.1=v.2.2.1/\u.2.2.2.1=v.2.2.2.1):=by
 obtain⟨h,k,r⟩:=c.ok t ht;obtain⟨n,_⟩:=xW c.ic k r;rw[n]at j;obtain⟨b,d,l,a,rfl⟩:=uF k j;have x:=c.ic.dx a;have y:=c.ic.lt a;refine⟨by simp only[fD];omega,by simp only[fD];omega,?_⟩;have o:(fD g b l).1.toNat=b:=by simp[fD]
 rw[o];by_cases i:co f b=0
 ·exact .inl i
 ·have e:=p.2 b d i a
  obtain⟨t',w,m,s⟩:=aJZ q e;exact .inr ⟨t',w,_,s,rfl,by simp only[fD,cP a,cP e],by simp only[fD,cP a,cP e]⟩
end Go.Proofs.YtmpagpeenjddgaaGreat.Fo
