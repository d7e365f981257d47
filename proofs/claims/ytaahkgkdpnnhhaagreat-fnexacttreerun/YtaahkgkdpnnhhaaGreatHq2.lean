import Derived.Test.YtaahkgkdpnnhhaaGreatHp13
set_option maxHeartbeats 9999999
set_option maxRecDepth 99999
set_option linter.all false
namespace Go.Proofs.YtaahkgkdpnnhhaaGreat
open Go.RowKit Fo
theorem aFG(zs:List Int)(i:Nat)(v:Int):(cY zs).setIfInBounds i (.int .i64 v)=cY (zs.set i v):=by
 simp[cY,List.map_set]
variable {w w' : World} {ρ ρ' : Nat → Nat} {P : Nat} {A : Adr} {f : fZ} {J : List aR} {S : Nat → Prop} {jv : Value}
theorem St.of{A':Adr}{f':fZ}(h:St w ρ P A f J)(k:Frm S w w')(hS:∀x,S x→¬isJ (ρ x))(hρ:∀x,x<w.heap.size→isJ (ρ x)→ρ' x=ρ x)(hR:∀jv,Rp w ρ P A f jv→Rp w' ρ' P A' f' jv):St w' ρ' P A' f' J:=by
 obtain⟨ja,jp,jj,h1,h2⟩:=h;exact⟨ja,jp,jj,hR _ h1,h2.frm k h1.own hS hρ⟩
theorem aBS(b:Nat):¬isJ (cE b):=(wN b).2
theorem aBL(b:Nat):¬isJ (cC b):=(vZ b).2
theorem aDE:¬isJ 0:=by unfold isJ;omega
theorem Kp.same(h:Rp w ρ P A f jv)(k:Frm S w w'):Kp S w ρ w' ρ:=⟨k,fun _ _ _=>rfl,fun x hx=>lL (h.own x hx) k.size⟩
theorem St.frm(h:St w ρ P A f J)(k:Frm (fun x=>ρ x=0) w w'):St w' ρ P A f J:=
 h.of k (fun x e=>by rw[e];exact aDE) (fun _ _ _=>rfl) fun jv hR=>hR.frm (Kp.same hR k) fun x _ e q=>q.1 e
theorem St.below(h:St w ρ P A f J)(k:Bl w w'):St w' ρ P A f J:=h.frm (Frm.of_below k)
theorem St.setC(h:St w ρ P A f J){b:Nat}(hb:b<f.cur.length)(v:Int):St (w.setCell ⟨A.c,b,none⟩ (.int .i64 v)) ρ P A (setC f b v) J∧Mv (fun _=>False) w ρ (w.setCell ⟨A.c,b,none⟩ (.int .i64 v)) ρ:=by
 have hc:ρ A.c=4:=by obtain⟨_,_,_,h1,_⟩:=h;exact h1.rc
 have k:Frm (fun x=>x=A.c) w (w.setCell ⟨A.c,b,none⟩ (.int .i64 v)):=Frm.set (S:=fun x=>x=A.c) w (p:=⟨A.c,b,none⟩) rfl _;refine⟨h.of k (fun x e=>by rw[e,hc];exact aDF.2) (fun _ _ _=>rfl) fun jv hR=>?_,k.wide (fun x _ e=>.inl (by rw[e,hc];omega)),fun _ _ _=>rfl⟩;have no:∀{x r},ρ x=r→r≠4→¬x=A.c:=fun {x r} e hr q=>hr (by rw[←e,q,hc]);refine hR.gen (Kp.same hR k) (.inl ⟨no hR.rP (by omega),?_⟩) (.inl ⟨no hR.rr (by omega),rfl,rfl⟩) (.inl ⟨no hR.rm (by omega),rfl⟩) rfl (.inr ?_) rfl (.inl ⟨no hR.rd (by omega),rfl,rfl⟩) (fun x d hx=>.inl ⟨hx,rfl,rfl,fun y hy=>?_⟩) hR.no hR.rs hR.ds
 ·simp[dC,Fo.setC]
 ·have:=hR.hc.set b (.int .i64 v)
  rw[aFG]at this;exact this
 ·rcases hy with e | e
  ·exact no e (by unfold cE;omega)
  ·exact no e (by unfold cC;omega)
def noN(f:fZ)(b:Nat):fZ:={f with nodes:=upd f.nodes b none}
def gO(A:Adr)(b:Nat):Adr:={A with φ:=upd A.φ b none}
def cT(A:Adr)(b q:Nat)(a:Option Nat):Adr:={A with φ:=upd A.φ b (some q),α:=upd A.α b a}
def dL(A:Adr)(b:Nat)(a:Option Nat):Adr:={A with α:=upd A.α b a}
theorem St.del(h:St w ρ P A f J){b:Nat}(hM:dR w' A.m (upd A.φ b none))(k:Frm (fun x=>x=A.m) w w'):St w' ρ P (gO A b) (noN f b) J∧Mv (fun _=>False) w ρ w' ρ:=by
 have hc:ρ A.m=3:=by obtain⟨_,_,_,h1,_⟩:=h;exact h1.rm
 refine⟨h.of k (fun x e=>by rw[e,hc];exact vM.2) (fun _ _ _=>rfl) fun jv hR=>?_,k.wide (fun x _ e=>.inl (by rw[e,hc];omega)),fun _ _ _=>rfl⟩;have no:∀{x r},ρ x=r→r≠3→¬x=A.m:=fun {x r} e hr q=>hr (by rw[←e,q,hc]);refine hR.gen (A':=gO A b) (f':=noN f b) (Kp.same hR k) (.inl ⟨no hR.rP (by omega),rfl⟩) (.inl ⟨no hR.rr (by omega),rfl,rfl⟩) (.inr hM) rfl (.inl ⟨no hR.rc (by omega),rfl⟩) rfl (.inl ⟨no hR.rd (by omega),rfl,rfl⟩) (fun x d hx=>.inl ?_) (fun x hx=>?_) hR.rs hR.ds
 ·have hx':upd f.nodes b none x=some d:=hx
  by_cases e:x=b
  ·subst e;rw[aD]at hx';cases hx'
  ·rw[aC _ _ e]at hx'
   refine⟨hx',aC _ _ e,rfl,fun y hy=>?_⟩;rcases hy with e | e
   ·exact no e (by unfold cE;omega)
   ·exact no e (by unfold cC;omega)
 ·show upd A.φ b none x=none
  by_cases e:x=b
  ·rw[e,aD]
  ·rw[aC _ _ e]
   exact hR.no x (by have hx':upd f.nodes b none x=none:=hx;rwa [aC _ _ e]at hx')
def uK(ρ:Nat→Nat)(q:Nat)(a:Option Nat)(b:Nat):Nat→Nat:=fun k=>if k=q then cE b else if a=some k then cC b else ρ k
def jB(ρ:Nat→Nat)(a:Option Nat)(b:Nat):Nat→Nat:=fun k=>if a=some k then cC b else ρ k
theorem xL{q:Nat}{a:Option Nat}{b x:Nat}(h:x≠q)(h':a≠some x):uK ρ q a b x=ρ x:=by simp[uK,h,h']
theorem wF{a:Option Nat}{b x:Nat}(h':a≠some x):jB ρ a b x=ρ x:=by simp[jB,h']
theorem St.put(h:St w ρ P A f J){b q:Nat}{d:Nd}{a:Option Nat}{junk:List E3}(hN:aM w q d a junk)(hq:ρ q=0)(ha:∀g,a=some g→ρ g=0)(hM:dR w' A.m (upd A.φ b (some q)))(k:Frm (fun x=>x=A.m) w w'):
  St w' (uK ρ q a b) P (cT A b q a) (setN f b d) J∧Mv (fun x=>x=q∨a=some x) w ρ w' (uK ρ q a b):=by
 have hc:ρ A.m=3:=by obtain⟨_,_,_,h1,_⟩:=h;exact h1.rm
 have hrr:∀x,ρ x≠0→uK ρ q a b x=ρ x:=fun x hx=>xL (fun e=>hx (e▸hq)) (fun e=>hx (ha x e));have hqm:q≠A.m:=fun e=>by rw[e,hc]at hq;omega
 have hfa:∀g,a=some g→g≠A.m:=fun g e e'=>by have:=ha g e;rw[e',hc]at this;omega
 refine⟨h.of k (fun x e=>by rw[e,hc];exact vM.2) (fun x _ e=>hrr x fun q=>aDE (q▸e)) fun jv hR=>?_,k.wide (fun x _ e=>.inl (by rw[e,hc];omega)),fun x _ e=>xL (fun q=>e (.inl q)) fun q=>e (.inr q)⟩;have no:∀{x r},ρ x=r→r≠3→¬x=A.m:=fun {x r} e hr q=>hr (by rw[←e,q,hc]);have hK:Kp (fun x=>x=A.m) w ρ w' (uK ρ q a b):=⟨k,fun x _ e=>hrr x e.1,fun x hx=>by
  by_cases e1:x=q
  ·rw[e1];exact lL hN.box.lt k.size
  ·by_cases e2:a=some x
   ·exact lL (hN.arr x e2).1.lt k.size
   ·rw[xL e1 e2]at hx;exact lL (hR.own x hx) k.size⟩
 refine hR.gen (A':=cT A b q a) (f':=setN f b d) hK (.inl ⟨no hR.rP (by omega),rfl⟩) (.inl ⟨no hR.rr (by omega),rfl,rfl⟩) (.inr hM) rfl (.inl ⟨no hR.rc (by omega),rfl⟩) rfl (.inl ⟨no hR.rd (by omega),rfl,rfl⟩) (fun x d' hx=>?_) (fun x hx=>?_) hR.rs hR.ds
 ·have hx':upd f.nodes b (some d) x=some d':=hx
  by_cases e:x=b
  ·subst e
   rw[aD]at hx';cases hx';refine .inr ⟨q,aD _ _ _,by simp[uK],fun g e=>?_,junk,?_⟩
   ·have e':a=some g:=by rw[←e];exact(aD _ _ _).symm
    have:g≠q:=(hN.arr g e').2
    simp[uK,this,e']
   ·rw[show(cT A x q a).α x=a from aD _ _ _]
    exact hN.frm k hqm hfa
  ·rw[aC _ _ e]at hx'
   refine .inl ⟨hx',aC _ _ e,aC _ _ e,fun y hy=>?_⟩;rcases hy with e | e
   ·exact no e (by unfold cE;omega)
   ·exact no e (by unfold cC;omega)
 ·show upd A.φ b (some q) x=none
  have hx':upd f.nodes b (some d) x=none:=hx;by_cases e:x=b
  ·subst e;rw[aD]at hx';cases hx'
  ·rw[aC _ _ e]at hx' ⊢;exact hR.no x hx'
theorem St.node(h:St w ρ P A f J){b q:Nat}{d d':Nd}(hb:f.nodes b=some d)(hφ:A.φ b=some q){a':Option Nat}{junk':List E3}(k:Frm (fun x=>x=q∨A.α b=some x) w w')(hN:aM w' q d' a' junk')(ha:∀g,a'=some g→A.α b=some g∨w.heap.size≤g):
  St w' (jB ρ a' b) P (dL A b a') (setN f b d') J∧Mv (fun _=>False) w ρ w' (jB ρ a' b):=by
 have hro:ρ q=cE b∧(∀g,A.α b=some g→ρ g=cC b):=by
  obtain⟨_,_,_,h1,_⟩:=h;obtain⟨q',e1,e2,e3,_⟩:=h1.nd b d hb;rw[hφ]at e1;cases e1;exact⟨e2,e3⟩
 have hown:∀x,ρ x≠0→x<w.heap.size:=by obtain⟨_,_,_,h1,_⟩:=h;exact h1.own
 have hrr:∀x,x<w.heap.size→jB ρ a' b x=ρ x:=fun x hx=>by
  by_cases e:a'=some x
  ·rcases ha x e with e' | e'
   ·simp only[jB,e,if_true];exact(hro.2 x e').symm
   ·omega
  ·exact wF e
 have hS:∀x,x=q∨A.α b=some x→ρ x=cE b∨ρ x=cC b:=fun x e=>by
  rcases e with e | e
  ·left;rw[e];exact hro.1
  ·right;exact hro.2 x e
 have hq:q<w.heap.size:=hown q (by rw[hro.1];unfold cE;omega);refine⟨h.of k (fun x e=>?_) (fun x hx _=>hrr x hx) fun jv hR=>?_,k.wide (fun x _ e=>.inl ?_),fun x hx _=>hrr x hx⟩
 ·rcases hS x e with e | e<;>rw[e]
  ·exact aBS b
  ·exact aBL b
 ·have no:∀{x r},ρ x=r→r≠cE b→r≠cC b→¬(x=q∨A.α b=some x):=fun {x r} e h1 h2 q=>by
   rcases hS x q with e' | e'
   ·exact h1 (e.symm.trans e')
   ·exact h2 (e.symm.trans e')
  have hK:Kp (fun x=>x=q∨A.α b=some x) w ρ w' (jB ρ a' b):=⟨k,fun x hx e=>hrr x hx,fun x hx=>by
   by_cases e:a'=some x
   ·exact(hN.arr x e).1.lt
   ·rw[wF e]at hx;exact lL (hown x hx) k.size⟩
  have u1:1≠cE b∧1≠cC b:=by unfold cE cC;omega
  have u2:2≠cE b∧2≠cC b:=by unfold cE cC;omega
  have u3:3≠cE b∧3≠cC b:=by unfold cE cC;omega
  have u4:4≠cE b∧4≠cC b:=by unfold cE cC;omega
  have u5:5≠cE b∧5≠cC b:=by unfold cE cC;omega
  refine hR.gen (A':=dL A b a') (f':=setN f b d') hK (.inl ⟨no hR.rP u1.1 u1.2,rfl⟩) (.inl ⟨no hR.rr u2.1 u2.2,rfl,rfl⟩) (.inl ⟨no hR.rm u3.1 u3.2,rfl⟩) rfl (.inl ⟨no hR.rc u4.1 u4.2,rfl⟩) rfl (.inl ⟨no hR.rd u5.1 u5.2,rfl,rfl⟩) (fun x d2 hx=>?_) (fun x hx=>?_) hR.rs hR.ds
  ·have hx':upd f.nodes b (some d') x=some d2:=hx
   by_cases e:x=b
   ·subst e
    rw[aD]at hx';cases hx';refine .inr ⟨q,hφ,by rw[hrr q hq];exact hro.1,fun g e=>?_,junk',?_⟩
    ·have e':a'=some g:=by rw[←e];exact(aD _ _ _).symm
     simp[jB,e']
    ·rw[show(dL A x a').α x=a' from aD _ _ _]
     exact hN
   ·rw[aC _ _ e]at hx'
    refine .inl ⟨hx',rfl,aC _ _ e,fun y hy=>?_⟩;rcases hy with e2 | e2
    ·exact no e2 (by unfold cE;omega) (by unfold cE cC;omega)
    ·exact no e2 (by unfold cE cC;omega) (by unfold cC;omega)
  ·have hx':upd f.nodes b (some d') x=none:=hx
   by_cases e:x=b
   ·subst e;rw[aD]at hx';cases hx'
   ·rw[aC _ _ e]at hx';exact hR.no x hx'
 ·rcases hS x e with e | e<;>rw[e]
  ·unfold cE;omega
  ·unfold cC;omega
end Go.Proofs.YtaahkgkdpnnhhaaGreat
namespace Go.Proofs.YtaahkgkdpnnhhaaGreat
open Go.RowKit Fo
theorem IsC.ne{w:World}{g g':Nat}{cs cs':Array Value}{t t':TypeId}(h:IsC w g cs t)(h':IsC w g' cs' t')(ht:t≠t'):g≠g':=fun e=>by
 subst e;unfold IsC at h h';rw[h]at h';simp only[sJ,Obj.cells.injEq]at h';exact ht h'.2.1
structure Sz(K:Int)(f:fZ):Prop where
 n512:f.cur.length≤512
 n8:8≤f.cur.length
 com:f.com.length=f.cur.length
 ent:∀b d,f.nodes b=some d→d.2.length≤10
 lt:∀b d,f.nodes b=some d→b<f.cur.length
 cb:∀i,0≤cu f i∧cu f i≤K
 mb:∀i,0≤co f i∧co f i≤1000000
theorem Sz.of{K:Int}{f f':fZ}(h:Sz K f)(h1:f'.cur.length=f.cur.length)(h2:f'.com=f.com)(h4:∀i,0≤cu f' i∧cu f' i≤K)(h3:∀b d,f'.nodes b=some d→(f.nodes b=some d)∨(b<f.cur.length∧d.2.length≤10)):Sz K f':=by
 refine⟨by rw[h1];exact h.n512,by rw[h1];exact h.n8,by rw[h1,h2];exact h.com,fun b d hb=>?_,fun b d hb=>?_,h4,by unfold co;rw[h2];exact h.mb⟩
 ·rcases h3 b d hb with q | q
  ·exact h.ent b d q
  ·exact q.2
 ·rw[h1]
  rcases h3 b d hb with q | q
  ·exact h.lt b d q
  ·exact q.1
theorem Sz.up{K L:Int}{f:fZ}(h:Sz K f)(hK:K≤L):Sz L f:={h with cb:=fun i=>⟨(h.cb i).1,Int.le_trans (h.cb i).2 hK⟩}
theorem aLL{K v:Int}{f:fZ}(h:∀i,0≤cu f i∧cu f i≤K)(b:Nat)(h0:0≤v)(hK:v≤K)(i:Nat):0≤(f.cur.set b v).getD i 0∧(f.cur.set b v).getD i 0≤K:=by
 rw[gD,List.getElem?_set];have:=h i;unfold cu at this;rw[gD]at this;split
 ·split
  ·exact⟨h0,hK⟩
  ·simp only[Option.getD_none];exact⟨by omega,by have:=h b;omega⟩
 ·exact this
theorem Sz.setC{K:Int}{f:fZ}(h:Sz K f)(b:Nat){v:Int}(h0:0≤v)(hK:v≤K):Sz K (setC f b v):=h.of (by simp[Fo.setC]) rfl (aLL h.cb b h0 hK) fun _ _ q=>.inl q
theorem Sz.noN{K:Int}{f:fZ}(h:Sz K f)(b:Nat):Sz K (noN f b):=h.of rfl rfl h.cb fun x d q=>by
 have q':upd f.nodes b none x=some d:=q;by_cases e:x=b
 ·rw[e,aD]at q';cases q'
 ·rw[aC _ _ e]at q';exact .inl q'
theorem Sz.setN{K:Int}{f:fZ}(h:Sz K f){b:Nat}(hb:b<f.cur.length){d:Nd}(hd:d.2.length≤10):Sz K (setN f b d):=h.of rfl rfl h.cb fun x e q=>by
 have q':upd f.nodes b (some d) x=some e:=q;by_cases c:x=b
 ·subst c;rw[aD]at q';cases q';exact .inr ⟨hb,hd⟩
 ·rw[aC _ _ c]at q';exact .inl q'
theorem lO{K:Int}(w:World)(ρ:Nat→Nat)(P:Nat)(A:Adr)(f:fZ)(J:List aR)(b:Nat)(h:St w ρ P A f J)(hz:Sz K f)(hb:b<f.cur.length)(hJl:J.length≤900000):
  Calls Tryz.prog 132 #[.pointer (some ⟨P,0,none⟩),.int .i64 b] w fun e w'=>e=.returned (.tuple #[])∧∃ρ',St w' ρ' P A f (J++[(b,cu f b,f.nodes b)])∧Mv (fun _=>False) w ρ w' ρ'∧KeepsOthers w w'∧Frm (fun k=>ρ k=1∨ρ k=6) w w':=by
 obtain⟨ja,jp,jj,hR,hJ0⟩:=h;have hJ:=hJ0 (by omega);have ho:=hR.own;obtain⟨d,hd⟩:∃d,d=(f.nodes b).getD (0,[]):=⟨_,rfl⟩;have hx:∀q,A.φ b=some q→f.nodes b=some d∧∃a junk,aM w q d a junk:=fun q e=>by
  cases hn:f.nodes b with
  | none=>rw[hR.no b hn]at e;cases e
  | some d'=>
   rw[hn]at hd;simp only[Option.getD_some]at hd;subst hd;obtain⟨q',e1,e2,e3,j,e4⟩:=hR.nd b d hn;rw[e]at e1;cases e1;exact⟨rfl,_,j,e4⟩
 have h10:d.2.length≤10:=by
  cases hn:f.nodes b with
  | none=>rw[hd,hn];simp
  | some d'=>rw[hn]at hd;simp only[Option.getD_some]at hd;subst hd;exact hz.ent b d hn
 refine(aHK P A.m A.c f.cur.length b _ _ A.tv f.next f.gen f.cur A.φ ja jp jj w hR.hP hR.hc rfl hb hz.n512 hR.hm d (fun q e=>(hx q e).2) h10 (fun g e=>?_) hJ.nil hJ.small (by rw[hJ.len];exact hJl)).mono ?_
 ·obtain⟨h1,h2⟩:=hJ.arr g e
  exact⟨h1,fun q=>by rw[q,hR.rP]at h2;omega,fun q=>by rw[q,hR.rm]at h2;omega,fun q=>by rw[q,hR.rc]at h2;omega⟩
 rintro e w' ⟨rfl,x',ja',jj',k1,k2,k3,k4,⟨w1,k5,k6⟩,k7⟩;refine⟨rfl,?_⟩;obtain⟨a',hcp⟩:∃a':Option Nat,(x'=none→f.nodes b=none∧a'=none)∧(∀g,a'=some g→w.heap.size≤g∧∃cs,IsC w' g cs 110)∧∀q',x'=some q'→w.heap.size≤q'∧(∃cs,IsC w' q' cs 108)∧f.nodes b=some d∧∃j,aM w' q' d a' j:=by
  cases hφ:A.φ b with
  | none=>
   have:x'=none:=k5.none hφ
   refine⟨none,fun _=>⟨?_,rfl⟩,fun g e=>(by cases e),fun q' e=>by rw[this]at e;cases e⟩;cases hn:f.nodes b with
   | none=>rfl
   | some d'=>obtain⟨q',e1,_⟩:=hR.nd b d' hn;rw[hφ]at e1;cases e1
  | some q=>
   obtain⟨q',a',j',e1,e2,e3,e4⟩:=k5.some q hφ;have hS:∀y,w.heap.size≤y→¬(y=P∨ja=some y):=fun y hy q=>by
    rcases q with q | q
    ·have:=hR.hP.lt;omega
    ·have:=(hJ.arr y q).1.lt;omega
   have e5:aM w' q' d a' j':=e4.frm k6 (hS q' e2) fun g e=>hS g (e3 g e);refine⟨a',fun e=>(by rw[e1]at e;cases e),fun g e=>⟨e3 g e,_,(e5.arr g e).1⟩,fun q2 e=>?_⟩;rw[e1]at e;cases e;exact⟨e2,⟨_,e5.box⟩,(hx q hφ).1,j',e5⟩
 obtain⟨c1,c2,c3⟩:=hcp;obtain⟨ρ',hρ'⟩:∃ρ':Nat→Nat,ρ'=fun k=>if k<w.heap.size then ρ k else if x'=some k then jS J.length else if a'=some k then jV J.length else if ja'=some k then 6 else 0:=⟨_,rfl⟩;have rold:∀k,k<w.heap.size→ρ' k=ρ k:=fun k hk=>by rw[hρ'];simp[hk]
 have rbx:∀q',x'=some q'→ρ' q'=jS J.length:=fun q' e=>by
  have:=(c3 q' e).1
  rw[hρ'];simp[e,show ¬q'<w.heap.size by omega]
 have rnt:∀g,a'=some g→ρ' g=jV J.length:=fun g e=>by
  obtain⟨h1,cs,h2⟩:=c2 g e;have hne:x'≠some g:=fun q=>by
   obtain⟨_,⟨cs',h3⟩,_⟩:=c3 g q;exact IsC.ne h2 h3 (by decide) rfl
  rw[hρ'];simp[e,hne,show ¬g<w.heap.size by omega]
 have rjn:∀g,ja'=some g→ρ' g=6:=fun g e=>by
  obtain⟨h1,h2⟩:=k2 g e;by_cases hl:g<w.heap.size
  ·rw[rold g hl]
   rcases h2 with h2 | h2
   ·exact(hJ.arr g h2).2
   ·omega
  ·have hne:x'≠some g:=fun q=>by
    obtain⟨_,⟨cs',h3⟩,_⟩:=c3 g q;exact IsC.ne h1 h3 (by decide) rfl
   have hne':a'≠some g:=fun q=>by
    obtain⟨_,cs,h3⟩:=c2 g q;exact IsC.ne h1 h3 (by decide) rfl
   rw[hρ'];simp[e,hne,hne',hl]
 have hown':∀k,ρ' k≠0→k<w'.heap.size:=fun k hk=>by
  by_cases hl:k<w.heap.size
  ·exact lL hl k7.size
  ·by_cases e1:x'=some k
   ·obtain⟨_,⟨_,h3⟩,_⟩:=c3 k e1;exact h3.lt
   ·by_cases e2:a'=some k
    ·obtain⟨_,_,h3⟩:=c2 k e2;exact h3.lt
    ·by_cases e3:ja'=some k
     ·exact(k2 k e3).1.lt
     ·rw[hρ']at hk;simp[hl,e1,e2,e3]at hk
 have hSr:∀x,x=P∨ja=some x→ρ x=1∨ρ x=6:=fun x e=>by
  rcases e with e | e
  ·left;rw[e];exact hR.rP
  ·right;exact(hJ.arr x e).2
 have no:∀{x r},ρ x=r→r≠1→r≠6→¬(x=P∨ja=some x):=fun {x r} e h1 h2 q=>by
  rcases hSr x q with e' | e'
  ·exact h1 (e.symm.trans e')
  ·exact h2 (e.symm.trans e')
 have hko:KeepsOthers w w':=⟨k7.size,fun k o hk hc=>by
  refine(k7.block k (Array.getElem?_eq_some_iff.1 hk).1 fun e=>?_).trans hk;rcases e with e | e
  ·subst e;rw[show w.heap[k]?=_ from hR.hP]at hk;cases hk;cases hc
  ·rw[show w.heap[k]?=_ from(hJ.arr k e).1]at hk;cases hk;cases hc⟩
 refine⟨ρ',⟨ja',jp++[((b:Int),cu f b,x')],jj',?_,?_⟩,⟨k7.wide (fun x hx e=>.inl ?_),fun x hx _=>rold x hx⟩,hko,k7.wide fun x _ e=>hSr x e⟩
 ·have hK:Kp (fun x=>x=P∨ja=some x) w ρ w' ρ':=⟨k7,fun x hx _=>rold x hx,hown'⟩
  refine hR.gen hK (.inr ?_) (.inl ⟨no hR.rr (by omega) (by omega),rfl,rfl⟩) (.inl ⟨no hR.rm (by omega) (by omega),rfl⟩) rfl (.inl ⟨no hR.rc (by omega) (by omega),rfl⟩) rfl (.inl ⟨no hR.rd (by omega) (by omega),rfl,rfl⟩) (fun x d hx=>.inl ⟨hx,rfl,rfl,fun y hy=>?_⟩) hR.no hR.rs hR.ds
  ·have:dC A f (aGO ja' (jp++[((b:Int),cu f b,x')]) jj')=dC A f (.slice (adr ja') (jp.length+1) (jp.length+1+jj'.length)):=by simp[aGO]
   rw[this];exact k1
  ·rcases hy with e | e
   ·exact no e (by unfold cE;omega) (by unfold cE;omega)
   ·exact no e (by unfold cC;omega) (by unfold cC;omega)
 ·refine fun _=>⟨fun g e=>⟨(k2 g e).1,rjn g e⟩,fun e=>absurd e k3,by simpa using k4,by simp[hJ.len],fun i hi=>?_⟩
  by_cases hi':i<J.length
  ·obtain⟨h1,h2,h3⟩:=hJ.row i hi'
   have e1:(J++[(b,cu f b,f.nodes b)]).getD i jr0=J.getD i jr0:=by
    rw[gD,List.getElem?_append_left hi',←gD]
   have e2:(jp++[((b:Int),cu f b,x')]).getD i j0=jp.getD i j0:=by
    rw[gD,List.getElem?_append_left (by rw[hJ.len];exact hi'),←gD]
   rw[e1,e2];refine⟨h1,h2,?_⟩;cases e:(J.getD i jr0).2.2 with
   | none=>rw[e]at h3;exact h3
   | some dd=>
    rw[e]at h3;obtain⟨q,a,junk,m1,m2,m3,m4⟩:=h3;have b1:=ho q (by rw[m2];unfold jS;omega);refine⟨q,a,junk,m1,by rw[rold q b1,m2],fun g e=>?_,m4.frm k7 (no m2 (by unfold jS;omega) (by unfold jS;omega)) fun g e=>no (m3 g e) (by unfold jV;omega) (by unfold jV;omega)⟩;have b2:=ho g (by rw[m3 g e];unfold jV;omega);rw[rold g b2,m3 g e]
  ·have hi2:i=J.length:=by simp at hi;omega
   subst hi2;have e1:(J++[(b,cu f b,f.nodes b)]).getD J.length jr0=(b,cu f b,f.nodes b):=by simp[gD]
   have e2:(jp++[((b:Int),cu f b,x')]).getD J.length j0=((b:Int),cu f b,x'):=by rw[←hJ.len];simp[gD]
   rw[e1,e2];refine⟨rfl,rfl,?_⟩;cases hx':x' with
   | none=>simp only[(c1 hx').1]
   | some q'=>
    obtain⟨h1,h2,h3,j,h4⟩:=c3 q' hx';simp only[h3];exact⟨q',a',j,rfl,rbx q' hx',rnt,h4⟩
 ·rcases hSr x e with e | e<;>omega
theorem zY(zs ys:List Int)(n:Nat):∀l:List Nat,(∀x∈l,x<n)→
  (l.filterMap fun i=>if h:2≤i∧i<n then(if isF zs ys i then some (⟨i,h⟩:Blk n)else none)else none).head?.map (fun x=>x.1)=l.find? fun b=>decide (2≤b) && (zs.getD b 0 == 0) && (ys.getD b 0 == 0)
 | [],_=>rfl
 | a :: l,h=>by
  have ih:=zY zs ys n l fun x hx=>h x (List.mem_cons_of_mem _ hx);have ha:=h a List.mem_cons_self;by_cases h2:2≤a
  ·by_cases hf:isF zs ys a=true
   ·have:(decide (2≤a) && (zs.getD a 0 == 0) && (ys.getD a 0 == 0))=true:=by
     unfold isF at hf;simp only[Bool.and_eq_true]at hf ⊢;exact⟨⟨by simpa using h2,hf.1⟩,hf.2⟩
    rw[List.filterMap_cons_some (b:=(⟨a,h2,ha⟩:Blk n)) (by simp[h2,ha,hf]),List.find?_cons_of_pos (p:=fun b=>decide (2≤b) && (zs.getD b 0 == 0) && (ys.getD b 0 == 0)) this];rfl
   ·have:¬(decide (2≤a) && (zs.getD a 0 == 0) && (ys.getD a 0 == 0))=true:=fun q=>hf (by
     unfold isF;simp only[Bool.and_eq_true]at q ⊢;exact⟨q.1.2,q.2⟩)
    rw[List.filterMap_cons_none (by simp[h2,ha,hf]),List.find?_cons_of_neg (p:=fun b=>decide (2≤b) && (zs.getD b 0 == 0) && (ys.getD b 0 == 0)) this];exact ih
  ·rw[List.filterMap_cons_none (by simp[h2]),List.find?_cons_of_neg (p:=fun b=>decide (2≤b) && (zs.getD b 0 == 0) && (ys.getD b 0 == 0)) (by simp[h2])]
   exact ih
theorem aLD(f:fZ):low f.cur f.com=(aF f:Int):=by
 have h:=zY f.cur f.com f.cur.length (List.range f.cur.length) (fun x hx=>by simpa using hx);unfold low aF cu co;rw[←h];unfold frs;split
 ·rename_i e;rw[e];rfl
 ·rename_i x l e;rw[e];rfl
theorem lQ{w:World}{c:Nat}{zs ys:List Int}(h:IsC w c (cY (zs++ys)) 2)(hs:∀i,0≤zs.getD i 0∧zs.getD i 0≤2000000):Nts w (.slice (some ⟨c,0,none⟩) zs.length (zs.length+ys.length)) zs:=by
 refine⟨fun i=>by have:=hs i;omega,_,_,rfl,fun _=>⟨c,0,rfl,fun i hi=>?_⟩⟩;rw[h.cell];simp only[cY,Nat.zero_add,List.getElem?_toArray,List.map_append,gD];rw[List.getElem?_append_left (by simpa using hi),List.getElem?_map,gE hi];rfl
theorem wU{w:World}{c:Nat}{zs:List Int}{dj:List Value}(h:IsC w c (jE zs dj) 2)(hs:∀i,0≤zs.getD i 0∧zs.getD i 0≤2000000):Nts w (.slice (some ⟨c,0,none⟩) zs.length (zs.length+dj.length)) zs:=by
 refine⟨fun i=>by have:=hs i;omega,_,_,rfl,fun _=>⟨c,0,rfl,fun i hi=>?_⟩⟩;rw[h.cell];simp only[jE,Nat.zero_add,List.getElem?_toArray,gD];rw[List.getElem?_append_left (by simpa using hi),List.getElem?_map,gE hi];rfl
theorem aLF{w:World}{c:Nat}{zs:List Int}{dj:List Value}(h:IsC w c (jE zs dj) 2){i:Nat}(hi:i<zs.length):w.cell? ⟨c,i,none⟩=some (.int .i64 (zs.getD i 0)):=by
 rw[h.cell];simp only[jE,List.getElem?_toArray,gD];rw[List.getElem?_append_left (by simpa using hi),List.getElem?_map,gE hi];rfl
structure TkS(P m c:Nat)(n:Nat)(dv jv:Value)(w:World):Prop where
 m3:w.cell? ⟨P,3,none⟩=some (.map (some m))
 m4:w.cell? ⟨P,4,none⟩=some (.slice (some ⟨c,0,none⟩) n n)
 m5:w.cell? ⟨P,5,none⟩=some dv
 m7:w.cell? ⟨P,7,none⟩=some jv
theorem Rp.cells{w:World}{ρ:Nat→Nat}{P:Nat}{A:Adr}{f:fZ}{jv:Value}(h:Rp w ρ P A f jv):TkS P A.m A.c f.cur.length (.slice (some ⟨A.d,0,none⟩) f.com.length (f.com.length+A.dj.length)) jv w:=
 ⟨by rw[h.hP.cell];rfl,by rw[h.hP.cell];rfl,by rw[h.hP.cell];rfl,by rw[h.hP.cell];rfl⟩
theorem Mv.of_below{X:Nat→Prop}{w w':World}{ρ:Nat→Nat}(h:Bl w w'):Mv X w ρ w' ρ:=⟨Frm.of_below h,fun _ _ _=>rfl⟩
theorem Rp.count{w:World}{ρ:Nat→Nat}{P:Nat}{A:Adr}{f:fZ}{jv:Value}(h:Rp w ρ P A f jv){b:Nat}(hb:b<f.cur.length):w.cell? ⟨A.c,b,none⟩=some (.int .i64 (cu f b)):=by
 rw[h.hc.cell];simp[cY,cu,gD,hb]
theorem aA{p:Prop}(h:p):Hid p:=h
abbrev aBI:Ending:=.panicked [{v:=.iface 169 (.agg #[]),recovered:=false}]
structure aLU(w:World)(ρ:Nat→Nat)(P:Nat)(A:Adr)(f:fZ)(J:List aR)(q:Nat)(d:Nd)(a:Option Nat)(e:Ending)(w':World):Prop where
 no:aF f=0→e=aBI∧Bl w w'
 yes:aF f≠0→e=.returned (.int .i64 (aF f))∧∃ρ',St w' ρ' P (cT A (aF f) q a) (takeAt f (aF f) d) (J++[(aF f,cu f (aF f),f.nodes (aF f))])∧Mv (fun x=>x=q∨a=some x) w ρ w' ρ'∧Frm (fun k=>ρ k=1∨ρ k=6∨ρ k=3∨ρ k=4) w w'
theorem nH{K:Int}(w:World)(ρ:Nat→Nat)(P:Nat)(A:Adr)(f:fZ)(J:List aR)(q:Nat)(d:Nd)(a:Option Nat)(junk:List E3)(h:St w ρ P A f J)(hz:Sz K f)(hK:K≤1000000)(hJl:J.length≤900000)(hN:aM w q d a junk)(hq:ρ q=0)(ha:∀g,a=some g→ρ g=0):
  Calls Tryz.prog 133 #[.pointer (some ⟨P,0,none⟩),.pointer (some ⟨q,0,none⟩)] w (aLU w ρ P A f J q d a):=by
 have hst:=h;obtain⟨ja,jp,jj,hR,hJ⟩:=h;obtain⟨m3,m4,m5,m7⟩:=hR.cells;have hlow:=sK (some ⟨A.c,0,none⟩) (some ⟨A.d,0,none⟩) f.cur.length (f.com.length+A.dj.length) f.cur f.com hz.com hz.n512 hz.n8;rw[aLD]at hlow;have hn1:∀w:World,IsC w A.c (cY f.cur) 2→Nts w (.slice (some ⟨A.c,0,none⟩) f.cur.length f.cur.length) f.cur:=fun w h=>by
  have:=lQ (ys:=[]) (by simpa using h:IsC w A.c (cY (f.cur++[])) 2) (fun i=>by have:=hz.cb i;unfold cu at this;omega)
  simpa using this
 have hn2:∀w:World,IsC w A.d (jE f.com A.dj) 2→Nts w (.slice (some ⟨A.d,0,none⟩) f.com.length (f.com.length+A.dj.length)) f.com:=fun w h=>wU h (fun i=>by have:=hz.mb i;unfold co at this;omega);go_enter Tryz.func133,Tryz.ntmps133;go_wp2;go_region_held3 (fun w'=>w'.cell? ⟨P,4,none⟩=some (.slice (some ⟨A.c,0,none⟩) f.cur.length f.cur.length)∧w'.cell? ⟨P,5,none⟩=some (.slice (some ⟨A.d,0,none⟩) f.com.length (f.com.length+A.dj.length))) (first | go_keep | exact⟨m4,m5⟩ | exact⟨(hB.cell (p:=⟨P,4,none⟩) hR.hP.lt).trans m4,(hB.cell (p:=⟨P,5,none⟩) hR.hP.lt).trans m5⟩) ((go_at_call 151;refine(hlow _ (hn1 _ ?_) (hn2 _ ?_)).mono ?_;exact hR.hc;exact hR.hd;rintro e w1 ⟨rfl,hB0⟩;have hB:Bl w w1:=(bQ w.heap.size w).drew.trans hB0));by_cases h0:aF f=0
 ·have h0i:((aF f:Nat):Int)=0:=by omega
  go_wp2
  exact⟨rfl,fun _=>⟨rfl,hB⟩,fun q=>absurd h0 q⟩
 ·have h0i:¬((aF f:Nat):Int)=0:=by omega
  obtain⟨l1,l2,l3,l4⟩:=aQ h0;have hST1:St w1 ρ P A f J:=hst.below hB;go_wp2_with fail;refine(lO _ ρ P A f J (aF f) hST1 hz l2 hJl).mono ?_;rintro e w2 ⟨rfl,ρ2,hS2,hM2,-,hfr⟩;have hN1:aM w1 q d a junk:=hN.below hB;have hN2:aM w2 q d a junk:=hN1.frm hM2.frm (fun e=>by rcases e with e | e;exact e hq;exact e) fun g eg e=>by rcases e with e | e;exact e (ha g eg);exact e
  have hq2:ρ2 q=0:=by rw[hM2.rol q hN1.box.lt (fun e=>e)];exact hq
  have ha2:∀g,a=some g→ρ2 g=0:=fun g e=>by rw[hM2.rol g (hN1.arr g e).1.lt (fun e=>e)];exact ha g e
  obtain⟨ja2,jp2,jj2,hR2,hJ2⟩:=id hS2;obtain⟨n3,n4,n5,n7⟩:=hR2.cells;obtain⟨w3,hr3,hM3,hF3⟩:=hR2.hm.put (aF f) q (by have:=hz.n512;omega);obtain⟨hS3,hV3⟩:=hS2.put hN2 hq2 ha2 hM3 hF3;obtain⟨ja3,jp3,jj3,hR3,hJ3⟩:=id hS3;have o4:w3.cell? ⟨P,4,none⟩=some (.slice (some ⟨A.c,0,none⟩) f.cur.length f.cur.length):=hR3.cells.m4;have hcc:w3.cell? ⟨A.c,aF f,none⟩=some (.int .i64 0):=by
   have:=hR3.hc.cell (aF f)
   rw[show(cT A (aF f) q a).c=A.c from rfl]at this;rw[this];have l3':f.cur.getD (aF f) 0=0:=l3;rw[gD]at l3';simp only[cY,List.getElem?_toArray,List.getElem?_map,setN,gE l2]at l3' ⊢;simp at l3' ⊢;exact l3'
  have hfz:w3.frozen? ⟨A.c,aF f,none⟩=false:=hR3.hc.frozen (aF f);obtain⟨hS4,hV4⟩:=hS3.setC (b:=aF f) l2 1;have l2i:((aF f:Nat):Int) <(f.cur.length:Int):=by omega
  have HS4:=aA hS4;have HV4:=aA hV4;clear hS4 hV4;go_wp2;go_ret;refine⟨fun q=>absurd q h0,fun _=>⟨rfl,_,HS4.out,?_,?_⟩⟩
  ·exact(((Mv.of_below (X:=fun x=>x=q∨a=some x) (ρ:=ρ) hB).trans hM2 (fun _ _ e=>e.elim)).trans hV3 (fun x _ e=>e)).trans HV4.out (fun _ _ e=>e.elim)
  ·have F1:Frm (fun k=>ρ k=1∨ρ k=6∨ρ k=3∨ρ k=4) w w3:=((Frm.of_below hB).next hfr (fun x _ e=>by rcases e with e | e;exact .inl e;exact .inr (.inl e))).next hF3 (fun x _ e=>.inr (.inr (.inl (by rw[e];exact hR.rm))))
   exact F1.trans (Frm.set w3 (p:=⟨A.c,aF f,none⟩) (.inr (.inr (.inr hR.rc))) _)
theorem aIN{K:Int}(w:World)(ρ:Nat→Nat)(P:Nat)(A:Adr)(f:fZ)(J:List aR)(b:Nat)(h:St w ρ P A f J)(hz:Sz K f)(hJl:J.length≤900000)(hb:b<f.cur.length):
  Calls Tryz.prog 123 #[.pointer (some ⟨P,0,none⟩),.int .i64 b] w fun e w'=>e=.returned (.tuple #[])∧∃ρ',St w' ρ' P (gO A b) (freeB f b) (J++[(b,cu f b,f.nodes b)])∧Mv (fun _=>False) w ρ w' ρ':=by
 go_enter Tryz.func123,Tryz.ntmps123
 go_wp2_with fail
 refine(lO _ ρ P A f J b h hz hb hJl).mono ?_;rintro e w2 ⟨rfl,ρ2,hS2,hM2,-⟩;obtain⟨ja2,jp2,jj2,hR2,hJ2⟩:=id hS2;obtain⟨n3,n4,n5,n7⟩:=hR2.cells;have hbi:(b:Int) <(f.cur.length:Int):=by omega
 have hcc:=hR2.count hb;have hfz:w2.frozen? ⟨A.c,b,none⟩=false:=hR2.hc.frozen b;obtain⟨hS4,hV4⟩:=hS2.setC (b:=b) hb 0;obtain⟨ja3,jp3,jj3,hR3,hJ3⟩:=id hS4;obtain⟨w5,hr5,hM5,hF5⟩:=hR3.hm.del b (by have:=hz.n512;omega) 0;have o3:(w2.setCell ⟨A.c,b,none⟩ (.int .i64 0)).cell? ⟨P,3,none⟩=some (.map (some A.m)):=hR3.cells.m3;obtain⟨hS5,hV5⟩:=hS4.del (b:=b) hM5 hF5;have HS5:=aA hS5;have HV5:=aA hV5;have HV4:=aA hV4;clear hS5 hV5 hV4 hS4;go_wp2;go_end0;exact⟨rfl,ρ2,HS5.out,(hM2.trans HV4.out (fun _ _ e=>e)).trans HV5.out (fun _ _ e=>e)⟩
