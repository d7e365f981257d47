import Derived.Test.YtaahkgkdpnnhhaaGreatHq5
set_option maxHeartbeats 9999999
set_option maxRecDepth 99999
set_option linter.all false
namespace Go.Proofs.YtaahkgkdpnnhhaaGreat
open Go.RowKit Fo
structure AdS(X:Nat→Prop)(A A':Adr):Prop where
 ra:A'.ra=A.ra
 rj:A'.rj=A.rj
 m:A'.m=A.m
 c:A'.c=A.c
 d:A'.d=A.d
 dj:A'.dj=A.dj
 tv:A'.tv=A.tv
 φ:∀x,¬X x→A'.φ x=A.φ x
 α:∀x,¬X x→A'.α x=A.α x
theorem AdS.refl(X:Nat→Prop)(A:Adr):AdS X A A:=⟨rfl,rfl,rfl,rfl,rfl,rfl,rfl,fun _ _=>rfl,fun _ _=>rfl⟩
theorem AdS.trans{X Y:Nat→Prop}{A B C:Adr}(h:AdS X A B)(k:AdS Y B C):AdS (fun x=>X x∨Y x) A C:=
 ⟨k.ra.trans h.ra,k.rj.trans h.rj,k.m.trans h.m,k.c.trans h.c,k.d.trans h.d,k.dj.trans h.dj,k.tv.trans h.tv,fun x hx=>(k.φ x fun q=>hx (.inr q)).trans (h.φ x fun q=>hx (.inl q)),fun x hx=>(k.α x fun q=>hx (.inr q)).trans (h.α x fun q=>hx (.inl q))⟩
theorem AdS.up{X Y:Nat→Prop}{A B:Adr}(h:AdS X A B)(hX:∀x,X x→Y x):AdS Y A B:={h with φ:=fun x hx=>h.φ x fun q=>hx (hX x q),α:=fun x hx=>h.α x fun q=>hx (hX x q)}
theorem AdS.put(A:Adr)(b q:Nat)(a:Option Nat):AdS (fun x=>x=b) A (cT A b q a):=⟨rfl,rfl,rfl,rfl,rfl,rfl,rfl,fun x hx=>aC _ _ hx,fun x hx=>aC _ _ hx⟩
theorem AdS.del(A:Adr)(b:Nat):AdS (fun x=>x=b) A (gO A b):=⟨rfl,rfl,rfl,rfl,rfl,rfl,rfl,fun x hx=>aC _ _ hx,fun _ _=>rfl⟩
theorem AdS.arr(A:Adr)(b:Nat)(a:Option Nat):AdS (fun x=>x=b) A (dL A b a):=⟨rfl,rfl,rfl,rfl,rfl,rfl,rfl,fun _ _=>rfl,fun x hx=>aC _ _ hx⟩
structure Dn(k:Nat)(X:Nat→Prop)(w:World)(ρ:Nat→Nat)(P:Nat)(A:Adr)(f:fZ)(J:List aR)(w':World)(ρ':Nat→Nat)(A':Adr)(g:fZ)(J':List aR):Prop where
 st:St w' ρ' P A' g J'
 mv:Mv (fun _=>False) w ρ w' ρ'
 js:JS k f J g J'
 ad:AdS X A A'
structure Pk(k:Nat)(w:World)(ρ:Nat→Nat)(P:Nat)(f:fZ)(J:List aR)(e:Ending)(w':World):Prop where
 e:e=aBI
 ex:∃ρ' A' g J',St w' ρ' P A' g J'∧Mv (fun _=>False) w ρ w' ρ'∧JS k f J g J'
theorem Dn.below{k:Nat}{X:Nat→Prop}{w w1 w2:World}{ρ ρ1:Nat→Nat}{P:Nat}{A A1:Adr}{f g:fZ}{J J1:List aR}(h:Dn k X w ρ P A f J w1 ρ1 A1 g J1)(hb:Bl w1 w2):Dn k X w ρ P A f J w2 ρ1 A1 g J1:=
 ⟨h.st.below hb,h.mv.trans (Mv.of_below hb) (fun _ _ e=>e),h.js,h.ad⟩
theorem below_drewN(w:World)(n:Nat):Bl w (w.drewN n):=⟨rfl,rfl,rfl,nR _,fun _ _=>rfl⟩
structure ShP(w:World)(ρ:Nat→Nat)(P:Nat)(A:Adr)(f:fZ)(J:List aR)(L:Fo.Loc)(K:Int)(e:Ending)(w':World):Prop where
 no:shadow f L=none→Pk 0 w ρ P f J e w'
 yes:∀g c,shadow f L=some (g,c)→∃ρ' A' J' q,e=.returned (.pointer (some ⟨q,0,none⟩))∧A'.φ c=some q∧Dn 12 (fun x=>x=c∨x=bJ f L) w ρ P A f J w' ρ' A' g J'∧Tch c J'∧Sz (K+10) g
theorem aDJ{f:fZ}(h:IC f){b:Nat}{d:Nd}(hb:f.nodes b=some d):d.1=2→∀e∈d.2,0≤e.2.2:=fun h2 e he=>by
 rcases h.kb b d hb with q | ⟨_,_,q⟩
 ·omega
 ·exact(q e he).1
theorem aHS{f:fZ}(hI:IC f){L:Fo.Loc}(hL:dQ f L):∃d,f.nodes (bJ f L)=some d:=by
 cases L with
 | inl t=>
  have ht:t<f.roots.length:=hL;have hm:f.roots.getD t (0,0)∈f.roots:=by rw[gD,gE ht];exact List.getElem_mem _
  exact hI.root_live hm
 | inr bi=>
  obtain⟨b,i⟩:=bi;obtain⟨hb,es,hes,hi⟩:=hL;refine hI.kid_live hes (c:=bJ f (.ent b i)) ?_;simp only[bJ,aE hes];exact gM hi
theorem jG{f:fZ}{L:Fo.Loc}(hL:dQ f L)(q:Nat):bJ (setL f L q) L=q∧dQ (setL f L q) L:=by
 cases L with
 | inl t=>
  have ht:t<f.roots.length:=hL;refine⟨?_,by show t <(f.roots.set t _).length;simpa using ht⟩;show((f.roots.set t ((f.roots.getD t (0,0)).1,(q:Int))).getD t (0,0)).2.toNat=q
  rw[bA _ _ _ _ _ ht,if_pos rfl];simp
 | inr bi=>
  obtain⟨b,i⟩:=bi;obtain⟨hb,es,hes,hi⟩:=hL;have e5:setL f (.ent b i) q=setN f b (2,es.set i ((es.getD i e0).1,(es.getD i e0).2.1,(q:Int))):=by simp[setL,setE,aE hes]
  have hn:(setL f (.ent b i) q).nodes b=some (2,es.set i ((es.getD i e0).1,(es.getD i e0).2.1,(q:Int))):=by rw[e5];exact aD _ _ _
  refine⟨?_,by rw[e5];exact⟨hb,_,aD _ _ _,by simpa using hi⟩⟩;simp only[bJ,aE hn];rw[bA _ _ _ _ _ hi,if_pos rfl];simp[ch]
theorem zN{f:fZ}{L:Fo.Loc}(hL:dQ f L){q:Nat}(hq:f.nodes q=none)(d:Nd):dQ (takeAt f q d) L:=by
 cases L with
 | inl t=>exact hL
 | inr bi=>
  obtain⟨b,i⟩:=bi;obtain⟨hb,es,hes,hi⟩:=hL;refine⟨by simpa [takeAt] using hb,es,?_,hi⟩;show upd f.nodes q (some d) b=_
  rw[aC _ _ (fun e=>by rw[e,hq]at hes;cases hes)];exact hes
theorem vT{f:fZ}{L:Fo.Loc}(hL:dQ f L){b:Nat}(hb:∀b' i,L=.ent b' i→b'≠b):dQ (letGo f b) L∧bJ (letGo f b) L=bJ f L:=by
 cases L with
 | inl t=>exact⟨by show t <(letGo f b).roots.length;rw[dU];exact hL,by simp only[bJ,dU]⟩
 | inr bi=>
  obtain⟨b',i⟩:=bi;obtain⟨h1,es,hes,hi⟩:=hL;have hn:(letGo f b).nodes b'=some (2,es):=by
   rw[cN];split
   ·rw[aC _ _ (hb b' i rfl)];exact hes
   ·exact hes
  exact⟨⟨by rw[hZ];exact h1,es,hn,hi⟩,by simp only[bJ,aE hn,aE hes]⟩
theorem St.locCell{w:World}{ρ:Nat→Nat}{P:Nat}{A:Adr}{f:fZ}{J:List aR}(h:St w ρ P A f J){L:Fo.Loc}(hL:dQ f L){p:Addr}(hp:gR A L p):∃v,w.cell? p=some (.int .i64 v)∧w.frozen? p=false∧(0≤v→v=(bJ f L:Int)):=by
 obtain⟨_,_,_,hR,_⟩:=id h;cases L with
 | inl t=>
  subst hp;have ht:t<f.roots.length:=hL;refine⟨((f.roots++A.rj).getD t (0,0)).2,?_,hR.hr.frozen _,?_⟩
  ·rw[hR.hr.cell,(kM (f.roots++A.rj) (i:=t) (by simp;omega)).2]
  ·have e1:(f.roots++A.rj).getD t (0,0)=f.roots.getD t (0,0):=by rw[gD,List.getElem?_append_left ht,←gD]
   rw[e1];intro q;simp only[bJ];omega
 | inr bi=>
  obtain⟨b,i⟩:=bi;obtain⟨g,hg,rfl⟩:=hp;obtain⟨hb,es,hes,hi⟩:=hL;obtain⟨q,junk,e1,e2,e3,e4⟩:=h.getNode hes;rw[hg]at e4;have harr:=(e4.arr g rfl).1;refine⟨_,(bH harr (i:=i) (by simp;omega)).2.2,harr.frozen _,?_⟩;have e5:(es++junk).getD i e0=es.getD i e0:=by rw[gD,List.getElem?_append_left hi,←gD]
  simp only
  rw[e5];intro q;simp only[bJ,aE hes,ch];omega
theorem xC{X:Nat→Prop}{A A':Adr}(h:AdS X A A'){L:Fo.Loc}{p:Addr}(hp:gR A L p)(hX:∀b i,L=.ent b i→¬X b):gR A' L p:=by
 cases L with
 | inl t=>have hp':p=⟨A.ra,t*2+1,none⟩:=hp;show p=⟨A'.ra,_,none⟩;rw[h.ra];exact hp'
 | inr bi=>
  obtain⟨b,i⟩:=bi;obtain⟨g,hg,e⟩:=hp;exact⟨g,by rw[h.α b (hX b i rfl)];exact hg,e⟩
theorem Sz.takeAt{K:Int}{f:fZ}(h:Sz K f)(hK:1≤K){b:Nat}(hb:b<f.cur.length){d:Nd}(hd:d.2.length≤10):Sz K (takeAt f b d):=(h.setN hb hd).setC b (v:=1) (by omega) hK
theorem Sz.setL{K:Int}{f:fZ}(h:Sz K f){L:Fo.Loc}(hL:dQ f L)(q:Nat):Sz K (setL f L q):=by
 cases L with
 | inl t=>exact h.of rfl rfl h.cb fun _ _ q=>.inl q
 | inr bi=>
  obtain⟨b,i⟩:=bi;obtain⟨hb,es,hes,hi⟩:=hL;have:=h.ent b _ hes;exact h.setN hb (by simpa [setE,aE hes] using this)
theorem iE{K:Int}(w:World)(ρ:Nat→Nat)(P:Nat)(A:Adr)(f:fZ)(J:List aR)(L:Fo.Loc)(p:Addr)(h:St w ρ P A f J)(hI:IC f)(hz:Sz K f)(hK1:1≤K)(hK:K≤800000)(hJl:J.length≤700000)(hL:dQ f L)(hp:gR A L p)(htc:∀b i,L=.ent b i→Tch b J):
  Calls Tryz.prog 115 #[.pointer (some ⟨P,0,none⟩),.pointer (some p)] w (ShP w ρ P A f J L K):=by
 obtain⟨d,hd⟩:=aHS hI hL;obtain⟨hg1,hg2⟩:=h.getLoc hI hL hp;obtain⟨b,hb⟩:=eZ (bJ f L);rw[hb]at hd hg1;have hbl:b<f.cur.length:=hz.lt b d hd;have hbi:(b:Int) <(f.cur.length:Int):=by omega
 have hbi':(b:Int) <(f.com.length:Int):=by have:=hz.com;omega
 obtain⟨ja,jp,jj,hR,hJ⟩:=id h;obtain⟨m3,m4,m5,m7⟩:=hR.cells;have hcc:=hR.count hbl;have hcm:w.cell? ⟨A.d,b,none⟩=some (.int .i64 (co f b)):=aLF hR.hd (by rw[hz.com];exact hbl);obtain⟨q,junk,hφ,hρq,hρa,hN⟩:=h.getNode hd;go_enter Tryz.func115,Tryz.ntmps115;by_cases ho:own f b
 ·have hsh:shadow f L=some (f,b):=by unfold shadow;rw[hb,if_pos ho]
  obtain⟨o1,o2⟩:=ho;rw[o1]at hcc;rw[o2]at hcm;go_wp2_with fail;refine(lO _ ρ P A f J b h hz hbl (by omega)).mono ?_;rintro e w2 ⟨rfl,ρ2,hS2,hM2,-,-⟩;obtain⟨ja2,jp2,jj2,hR2,hJ2⟩:=id hS2;obtain⟨n3,n4,n5,n7⟩:=hR2.cells;have hlk:=hR2.hm.lookup b (by have:=hz.n512;omega);rw[hφ]at hlk;simp only[eY,Option.map_some]at hlk;go_wp2;go_ret;refine⟨fun q=>(by rw[hsh]at q;cases q),fun g c hgc=>?_⟩;rw[hsh]at hgc;cases hgc;exact⟨ρ2,A,_,q,rfl,hφ,⟨hS2,hM2,(JS.save hbl).up (by omega),AdS.refl _ _⟩,Tch.saved,hz.up (by omega)⟩
 ·have hlk:=hR.hm.lookup b (by have:=hz.n512;omega)
  rw[hφ]at hlk;simp only[eY,Option.map_some]at hlk;have hcs:(cu f b≠1)∨(cu f b=1∧co f b≠0):=by
   by_cases c1:cu f b=1
   ·exact .inr ⟨c1,fun c2=>ho ⟨c1,c2⟩⟩
   ·exact .inl c1
  have HN:=aA hN;have HC1:Hid (1≤cu f b):=by have:=hI.cu_pos hd;show 1≤cu f b;omega
  have h10:=hz.ent b d hd;have hρ0:∀x,w.heap.size≤x→ρ x=0:=fun x hx=>Nat.eq_zero_of_not_pos fun q=>absurd (hR.own x (by omega)) (by omega);have hLb:∀b' i,L=.ent b' i→b'≠b:=fun b' i e e'=>by
   subst e;subst e';obtain⟨_,es,hes,hi⟩:=hL;have hm:bJ f (.ent b' i)∈kids (2,es):=by simp only[bJ,aE hes];exact gM hi
   rw[hb]at hm;exact hI.not_self hes hm
  have hcb:=hz.cb b;rcases hcs with c1 | ⟨c1,c2⟩
  ·have c1':(cu f b == 1)=false:=by simpa using c1
   go_wp2_with fail
   refine(mY q d (A.α b) junk _ hN h10).mono ?_;rintro e w1 ⟨u,rfl,⟨q1,a1,j1,rfl,k1,k2,k3⟩,hB⟩;have hS1:=h.below hB;go_wp2_with fail;refine(nH w1 ρ P A f J q1 d a1 j1 hS1 hz (by omega) (by omega) k3 (hρ0 q1 k1) (fun g e=>hρ0 g (k2 g e))).mono ?_;intro e w2 hT;by_cases hl:aF f=0
   ·obtain⟨rfl,hB2⟩:=hT.no hl
    have hsh:shadow f L=none:=by unfold shadow;rw[hb,if_neg ho,if_pos hl]
    exact⟨rfl,fun _=>⟨rfl,ρ,A,f,J,hS1.below hB2,(Mv.of_below hB).trans (Mv.of_below hB2) (fun _ _ e=>e),JS.refl _ _⟩,fun g c hgc=>by rw[hsh]at hgc;cases hgc⟩
   ·obtain⟨rfl,ρ2,hS2,hM2,-⟩:=hT.yes hl
    have hsh:shadow f L=some (shadowAt f L (aF f),aF f):=by unfold shadow;rw[hb,if_neg ho,if_neg hl]
    obtain⟨l1,l2,l3,l4⟩:=aQ hl;have hqd:f.nodes (aF f)=none:=(hI.dom.dead _).2 l3;generalize aF f=z at *;have hbz:b≠z:=fun e=>by rw[e,hqd]at hd;cases hd
    have hM2':Mv (fun _=>False) w ρ w2 ρ2:=((Mv.of_below (X:=fun x=>x=q1∨a1=some x) (ρ:=ρ) hB).trans hM2 (fun _ _ e=>e)).up fun x hx e=>by
     rcases e with e | e
     ·omega
     ·have:=k2 x e;omega
    have hL2:=zN hL hqd d;have hp2:gR (cT A z q1 a1) L p:=xC (AdS.put A z q1 a1) hp fun b' i e e'=>by
     subst e;subst e';obtain⟨_,es,hes,hi⟩:=hL;rw[hqd]at hes;cases hes
    obtain⟨v2,hc2,hf2,-⟩:=hS2.locCell hL2 hp2;obtain⟨hS3,hM3⟩:=hS2.setLoc hL2 hp2 z;have hz3:Sz K (setL (takeAt f z d) L z):=(hz.takeAt hK1 l2 h10).setL hL2 z;have hd3:(setL (takeAt f z d) L z).nodes b=some d:=by
     have e1:(takeAt f z d).nodes b=some d:=by show upd f.nodes z (some d) b=_;rw[aC _ _ hbz];exact hd
     cases L with
     | inl t=>exact e1
     | inr bi=>obtain⟨b',i⟩:=bi;exact(aC _ _ (Ne.symm (hLb b' i rfl))).trans e1
    have hcu3:cu (setL (takeAt f z d) L z) b=cu f b:=by
     unfold cu;rw[bG];exact jN f 1 hbz
    have hJ3:JS 1 f J (setL (takeAt f z d) L z) (J++[(z,cu f z,f.nodes z)]):=((JS.save l2).trans (JS.takeAt d Tch.saved)).trans (JS.setL L z fun b' i e=>(JS.save l2).tch b' (htc b' i e));have hkid:∀c∈kids d,c <(setL (takeAt f z d) L z).cur.length:=fun c hc=>by rw[bG];simpa [takeAt] using hI.kid_lt hd hc
    go_wp2_with fail
    refine(oG _ ρ2 P (cT A z q1 a1) (setL (takeAt f z d) L z) (J++[(z,cu f z,f.nodes z)]) b d hS3 hz3 (by omega) (by simp;omega) hd3 (by rw[hcu3];exact HC1.out) hkid (aDJ hI hd)).mono ?_;rintro e w4 ⟨rfl,ρ4,J4,hS4,hM4,hJ4,hz4⟩;have hgg:letGo (setL (takeAt f z d) L z) b=shadowAt f L z:=by unfold shadowAt;rw[hb,aE hd]
    have hL4:=vT (jG hL2 z).2 hLb;rw[(jG hL2 z).1]at hL4;have hA4:AdS (fun x=>x=z∨x=b) A (if cu (setL (takeAt f z d) L z) b=1 then gO (cT A z q1 a1) b else cT A z q1 a1):=by
     split
     ·exact(AdS.put A z q1 a1).trans (AdS.del _ b)
     ·exact(AdS.put A z q1 a1).up fun x e=>.inl e
    have hφ4:(if cu (setL (takeAt f z d) L z) b=1 then gO (cT A z q1 a1) b else cT A z q1 a1).φ z=some q1:=by
     split
     ·show upd (upd A.φ z (some q1)) b none z=_
      rw[aC _ _ (Ne.symm hbz),aD]
     ·exact aD _ _ _
    generalize (if cu (setL (takeAt f z d) L z) b=1 then gO (cT A z q1 a1) b else cT A z q1 a1)=A4 at *;rw[hgg]at hS4 hJ4 hz4 hL4;have hp4:gR A4 L p:=xC hA4 hp fun b' i e e'=>by
     rcases e' with e' | e'
     ·subst e;subst e'
      obtain⟨_,es,hes,hi⟩:=hL;rw[hqd]at hes;cases hes
     ·exact hLb b' i e e'
    obtain⟨I1,-⟩:=hI.shadow hL hb hd l1 l2 l3;obtain⟨hc4,hf4⟩:=hS4.getLoc I1 hL4.1 hp4;rw[hL4.2]at hc4;obtain⟨ja4,jp4,jj4,hR4,hJr4⟩:=id hS4;have o3:=hR4.cells.m3;have hlk4:∀n,(Instr.lookup 68 (.map (some A4.m)) (.int .i64 z) false).run Tryz.prog (w4.drewN n)=.ok (.pointer (some ⟨q1,0,none⟩)) (w4.drewN n):=fun n=>by
     have:=(hR4.hm.of (w':=w4.drewN n) rfl).lookup z (by have:=hz.n512;omega)
     rw[hφ4]at this;simpa only[eY,Option.map_some] using this
    have hFin:Dn 12 (fun x=>x=z∨x=b) w ρ P A f J w4 ρ4 A4 (shadowAt f L z) J4:=⟨hS4,(hM2'.trans hM3 (fun _ _ e=>e)).trans hM4 (fun _ _ e=>e),hJ3.trans hJ4 |>.up (by omega),hA4⟩;have hT4:Tch z J4:=hJ4.tch z Tch.saved;have HF:=aA (aI hFin (aI hT4 hz4));clear hFin hz4 hT4 hJ4 hS4 hM4 hJ3 hS3 hM3 hM2 hM2' hR4 hJr4 hT hS2;go_wp2;go_quiet (fail);go_wp2;go_ret;obtain⟨hFin,hT4,hz4⟩:=HF.out;refine⟨fun q=>(by rw[hsh]at q;cases q),fun g c hgc=>?_⟩;rw[hsh]at hgc;cases hgc;exact⟨ρ4,A4,J4,q1,rfl,hφ4,by rw[hb];exact hFin.below (below_drewN _ _),hT4,hz4⟩
  ·have c2':(co f b == 0)=false:=by simpa using c2
   rw[c1]at hcc;have HC:=aA c1;clear c1;go_wp2_with fail;refine(mY q d (A.α b) junk _ hN h10).mono ?_;rintro e w1 ⟨u,rfl,⟨q1,a1,j1,rfl,k1,k2,k3⟩,hB⟩;have hS1:=h.below hB;go_wp2_with fail;refine(nH w1 ρ P A f J q1 d a1 j1 hS1 hz (by omega) (by omega) k3 (hρ0 q1 k1) (fun g e=>hρ0 g (k2 g e))).mono ?_;intro e w2 hT;by_cases hl:aF f=0
   ·obtain⟨rfl,hB2⟩:=hT.no hl
    have hsh:shadow f L=none:=by unfold shadow;rw[hb,if_neg ho,if_pos hl]
    exact⟨rfl,fun _=>⟨rfl,ρ,A,f,J,hS1.below hB2,(Mv.of_below hB).trans (Mv.of_below hB2) (fun _ _ e=>e),JS.refl _ _⟩,fun g c hgc=>by rw[hsh]at hgc;cases hgc⟩
   ·obtain⟨rfl,ρ2,hS2,hM2,-⟩:=hT.yes hl
    have hsh:shadow f L=some (shadowAt f L (aF f),aF f):=by unfold shadow;rw[hb,if_neg ho,if_neg hl]
    obtain⟨l1,l2,l3,l4⟩:=aQ hl;have hqd:f.nodes (aF f)=none:=(hI.dom.dead _).2 l3;generalize aF f=z at *;have hbz:b≠z:=fun e=>by rw[e,hqd]at hd;cases hd
    have hM2':Mv (fun _=>False) w ρ w2 ρ2:=((Mv.of_below (X:=fun x=>x=q1∨a1=some x) (ρ:=ρ) hB).trans hM2 (fun _ _ e=>e)).up fun x hx e=>by
     rcases e with e | e
     ·omega
     ·have:=k2 x e;omega
    have hL2:=zN hL hqd d;have hp2:gR (cT A z q1 a1) L p:=xC (AdS.put A z q1 a1) hp fun b' i e e'=>by
     subst e;subst e';obtain⟨_,es,hes,hi⟩:=hL;rw[hqd]at hes;cases hes
    obtain⟨v2,hc2,hf2,-⟩:=hS2.locCell hL2 hp2;obtain⟨hS3,hM3⟩:=hS2.setLoc hL2 hp2 z;have hz3:Sz K (setL (takeAt f z d) L z):=(hz.takeAt hK1 l2 h10).setL hL2 z;have hd3:(setL (takeAt f z d) L z).nodes b=some d:=by
     have e1:(takeAt f z d).nodes b=some d:=by show upd f.nodes z (some d) b=_;rw[aC _ _ hbz];exact hd
     cases L with
     | inl t=>exact e1
     | inr bi=>obtain⟨b',i⟩:=bi;exact(aC _ _ (Ne.symm (hLb b' i rfl))).trans e1
    have hcu3:cu (setL (takeAt f z d) L z) b=cu f b:=by
     unfold cu;rw[bG];exact jN f 1 hbz
    have hJ3:JS 1 f J (setL (takeAt f z d) L z) (J++[(z,cu f z,f.nodes z)]):=((JS.save l2).trans (JS.takeAt d Tch.saved)).trans (JS.setL L z fun b' i e=>(JS.save l2).tch b' (htc b' i e));have hkid:∀c∈kids d,c <(setL (takeAt f z d) L z).cur.length:=fun c hc=>by rw[bG];simpa [takeAt] using hI.kid_lt hd hc
    go_wp2_with fail
    refine(oG _ ρ2 P (cT A z q1 a1) (setL (takeAt f z d) L z) (J++[(z,cu f z,f.nodes z)]) b d hS3 hz3 (by omega) (by simp;omega) hd3 (by rw[hcu3];exact HC1.out) hkid (aDJ hI hd)).mono ?_;rintro e w4 ⟨rfl,ρ4,J4,hS4,hM4,hJ4,hz4⟩;have hgg:letGo (setL (takeAt f z d) L z) b=shadowAt f L z:=by unfold shadowAt;rw[hb,aE hd]
    have hL4:=vT (jG hL2 z).2 hLb;rw[(jG hL2 z).1]at hL4;have hA4:AdS (fun x=>x=z∨x=b) A (if cu (setL (takeAt f z d) L z) b=1 then gO (cT A z q1 a1) b else cT A z q1 a1):=by
     split
     ·exact(AdS.put A z q1 a1).trans (AdS.del _ b)
     ·exact(AdS.put A z q1 a1).up fun x e=>.inl e
    have hφ4:(if cu (setL (takeAt f z d) L z) b=1 then gO (cT A z q1 a1) b else cT A z q1 a1).φ z=some q1:=by
     split
     ·show upd (upd A.φ z (some q1)) b none z=_
      rw[aC _ _ (Ne.symm hbz),aD]
     ·exact aD _ _ _
    generalize (if cu (setL (takeAt f z d) L z) b=1 then gO (cT A z q1 a1) b else cT A z q1 a1)=A4 at *;rw[hgg]at hS4 hJ4 hz4 hL4;have hp4:gR A4 L p:=xC hA4 hp fun b' i e e'=>by
     rcases e' with e' | e'
     ·subst e;subst e'
      obtain⟨_,es,hes,hi⟩:=hL;rw[hqd]at hes;cases hes
     ·exact hLb b' i e e'
    obtain⟨I1,-⟩:=hI.shadow hL hb hd l1 l2 l3;obtain⟨hc4,hf4⟩:=hS4.getLoc I1 hL4.1 hp4;rw[hL4.2]at hc4;obtain⟨ja4,jp4,jj4,hR4,hJr4⟩:=id hS4;have o3:=hR4.cells.m3;have hlk4:∀n,(Instr.lookup 68 (.map (some A4.m)) (.int .i64 z) false).run Tryz.prog (w4.drewN n)=.ok (.pointer (some ⟨q1,0,none⟩)) (w4.drewN n):=fun n=>by
     have:=(hR4.hm.of (w':=w4.drewN n) rfl).lookup z (by have:=hz.n512;omega)
     rw[hφ4]at this;simpa only[eY,Option.map_some] using this
    have hFin:Dn 12 (fun x=>x=z∨x=b) w ρ P A f J w4 ρ4 A4 (shadowAt f L z) J4:=⟨hS4,(hM2'.trans hM3 (fun _ _ e=>e)).trans hM4 (fun _ _ e=>e),hJ3.trans hJ4 |>.up (by omega),hA4⟩;have hT4:Tch z J4:=hJ4.tch z Tch.saved;have HF:=aA (aI hFin (aI hT4 hz4));clear hFin hz4 hT4 hJ4 hS4 hM4 hJ3 hS3 hM3 hM2 hM2' hR4 hJr4 hT hS2;go_wp2;go_quiet (fail);go_wp2;go_ret;obtain⟨hFin,hT4,hz4⟩:=HF.out;refine⟨fun q=>(by rw[hsh]at q;cases q),fun g c hgc=>?_⟩;rw[hsh]at hgc;cases hgc;exact⟨ρ4,A4,J4,q1,rfl,hφ4,by rw[hb];exact hFin.below (below_drewN _ _),hT4,hz4⟩
