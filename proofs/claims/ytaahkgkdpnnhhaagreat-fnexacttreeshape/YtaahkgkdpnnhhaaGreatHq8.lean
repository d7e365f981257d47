import Derived.Test.YtaahkgkdpnnhhaaGreatHq4
set_option maxHeartbeats 9999999
set_option maxRecDepth 99999
set_option linter.all false
namespace Go.Proofs.YtaahkgkdpnnhhaaGreat
open Go.RowKit Fo
variable{p:Addr}{A B:Adr}{L:Fo.Loc}{K:Int}{junk:List E3}{P b q:Nat}{ρ:Nat→Nat}{X Y:Nat→Prop}{d:Nd}{a:Option Nat}{w:World}{f:fZ}
structure AdS(X:Nat→Prop)(A A':Adr):Prop where
 ra:A'.ra=A.ra
 rj:A'.rj=A.rj
 m:A'.m=A.m
 c:A'.c=A.c
 d:A'.d=A.d
 dj:A'.dj=A.dj
 tv:A'.tv=A.tv
 φ:∀x,¬X x→A'.φ x=A.φ x
 α:∀x,¬X x→A'.α x=A.α x
theorem AdS.refl(X:Nat→Prop)(A:Adr):AdS X A A:=⟨rfl,rfl,rfl,rfl,rfl,rfl,rfl,fun _ _=>rfl,fun _ _=>rfl⟩
theorem AdS.trans{C:Adr}(h:AdS X A B)(k:AdS Y B C):AdS (fun x=>X x∨Y x) A C:=
 ⟨k.ra.trans h.ra,k.rj.trans h.rj,k.m.trans h.m,k.c.trans h.c,k.d.trans h.d,k.dj.trans h.dj,k.tv.trans h.tv,fun x hx=>(k.φ x fun q=>hx (.inr q)).trans (h.φ x fun q=>hx (.inl q)),fun x hx=>(k.α x fun q=>hx (.inr q)).trans (h.α x fun q=>hx (.inl q))⟩
theorem AdS.up(h:AdS X A B)(hX:∀x,X x→Y x):AdS Y A B:={h with φ:=fun x hx=>h.φ x fun q=>hx (hX x q),α:=fun x hx=>h.α x fun q=>hx (hX x q)}
theorem AdS.put(A:Adr)(b q:Nat)(a:Option Nat):AdS (fun x=>x=b) A (cV A b q a):=⟨rfl,rfl,rfl,rfl,rfl,rfl,rfl,fun x hx=>aC _ _ hx,fun x hx=>aC _ _ hx⟩
theorem AdS.del(A:Adr)(b:Nat):AdS (fun x=>x=b) A (gQ A b):=⟨rfl,rfl,rfl,rfl,rfl,rfl,rfl,fun x hx=>aC _ _ hx,fun _ _=>rfl⟩
theorem AdS.arr(A:Adr)(b:Nat)(a:Option Nat):AdS (fun x=>x=b) A (dO A b a):=⟨rfl,rfl,rfl,rfl,rfl,rfl,rfl,fun _ _=>rfl,fun x hx=>aC _ _ hx⟩
structure Dn(k:Nat)(X:Nat→Prop)(w:World)(ρ:Nat→Nat)(P:Nat)(A:Adr)(f:fZ)(J:List aQ)(w':World)(ρ':Nat→Nat)(A':Adr)(g:fZ)(J':List aQ):Prop where
 st:St w' ρ' P A' g J'
 mv:Mv (fun _=>False) w ρ w' ρ'
 js:JS k f J g J'
 ad:AdS X A A'
structure Pk(k:Nat)(w:World)(ρ:Nat→Nat)(P:Nat)(f:fZ)(J:List aQ)(e:Ending)(w':World):Prop where
 e:e=aBB
 ex:∃ρ' A' g J',St w' ρ' P A' g J'∧Mv (fun _=>False) w ρ w' ρ'∧JS k f J g J'
theorem Dn.below{k:Nat}{w1 w2:World}{ρ1:Nat→Nat}{A1:Adr}{g:fZ}{J J1:List aQ}(h:Dn k X w ρ P A f J w1 ρ1 A1 g J1)(hb:Bl w1 w2):Dn k X w ρ P A f J w2 ρ1 A1 g J1:=
 ⟨h.st.below hb,h.mv.trans (Mv.of_below hb) (fun _ _ e=>e),h.js,h.ad⟩
theorem below_drewN(w:World)(n:Nat):Bl w (w.drewN n):=⟨rfl,rfl,rfl,nR _,fun _ _=>rfl⟩
structure ShP(w:World)(ρ:Nat→Nat)(P:Nat)(A:Adr)(f:fZ)(J:List aQ)(L:Fo.Loc)(K:Int)(e:Ending)(w':World):Prop where
 no:shadow f L=none→Pk 0 w ρ P f J e w'
 yes:∀g c,shadow f L=some (g,c)→∃ρ' A' J' q,e=.returned (.pointer (some ⟨q,0,none⟩))∧A'.φ c=some q∧Dn 12 (fun x=>x=c∨x=bI f L) w ρ P A f J w' ρ' A' g J'∧Tch c J'∧Sz (K+10) g
theorem aCW(h:IC f)(hb:f.nodes b=some d):d.1=2→∀e∈d.2,0≤e.2.2:=fun h2 e he=>by
 rcases h.kb b d hb with q | ⟨_,_,q⟩
 ·omega
 ·exact(q e he).1
theorem aHE(hI:IC f)(hL:dR f L):∃d,f.nodes (bI f L)=some d:=by
 cases L with
 | inl t=>
  have ht:t<f.roots.length:=hL;have hm:f.roots.getD t (0,0)∈f.roots:=by rw[gD,gE ht];exact List.getElem_mem _
  exact hI.root_live hm
 | inr bi=>
  obtain⟨b,i⟩:=bi;obtain⟨hb,es,af,hi⟩:=hL;refine hI.kid_live af (c:=bI f (.ent b i)) ?_;simp only[bI,aE af];exact gM hi
theorem jK(hL:dR f L)(q:Nat):bI (setL f L q) L=q∧dR (setL f L q) L:=by
 cases L with
 | inl t=>
  have ht:t<f.roots.length:=hL;refine⟨?_,by show t <(f.roots.set t _).length;simpa using ht⟩;show((f.roots.set t ((f.roots.getD t (0,0)).1,(q:Int))).getD t (0,0)).2.toNat=q
  rw[bA _ _ _ _ _ ht,if_pos rfl];simp
 | inr bi=>
  obtain⟨b,i⟩:=bi;obtain⟨hb,es,af,hi⟩:=hL;have e5:setL f (.ent b i) q=setN f b (2,es.set i ((es.getD i e0).1,(es.getD i e0).2.1,(q:Int))):=by simp[setL,setE,aE af]
  have hn:(setL f (.ent b i) q).nodes b=some (2,es.set i ((es.getD i e0).1,(es.getD i e0).2.1,(q:Int))):=by rw[e5];exact aD _ _ _
  refine⟨?_,by rw[e5];exact⟨hb,_,aD _ _ _,by simpa using hi⟩⟩;simp only[bI,aE hn];rw[bA _ _ _ _ _ hi,if_pos rfl];simp[ch]
theorem zA(hL:dR f L)(hq:f.nodes q=none)(d:Nd):dR (takeAt f q d) L:=by
 cases L with
 | inl t=>exact hL
 | inr bi=>
  obtain⟨b,i⟩:=bi;obtain⟨hb,es,af,hi⟩:=hL;refine⟨by simpa [takeAt] using hb,es,?_,hi⟩;show upd f.nodes q (some d) b=_
  rw[aC _ _ (fun e=>by rw[e,hq]at af;cases af)];exact af
theorem vG(hL:dR f L)(hb:∀b' i,L=.ent b' i→b'≠b):dR (letGo f b) L∧bI (letGo f b) L=bI f L:=by
 cases L with
 | inl t=>exact⟨by show t <(letGo f b).roots.length;rw[dV];exact hL,by simp only[bI,dV]⟩
 | inr bi=>
  obtain⟨b',i⟩:=bi;obtain⟨h1,es,af,hi⟩:=hL;have hn:(letGo f b).nodes b'=some (2,es):=by
   rw[cQ];split
   ·rw[aC _ _ (hb b' i rfl)];exact af
   ·exact af
  exact⟨⟨by rw[iE];exact h1,es,hn,hi⟩,by simp only[bI,aE hn,aE af]⟩
theorem St.locCell{J:List aQ}(h:St w ρ P A f J)(hL:dR f L)(hp:gV A L p):∃v,w.cell? p=some (.int .i64 v)∧w.frozen? p=false∧(0≤v→v=(bI f L:Int)):=by
 obtain⟨_,_,_,hR,_⟩:=id h;cases L with
 | inl t=>
  subst hp;have ht:t<f.roots.length:=hL;refine⟨((f.roots++A.rj).getD t (0,0)).2,?_,hR.hr.frozen _,?_⟩
  ·rw[hR.hr.cell,(lB (f.roots++A.rj) (i:=t) (by simp;omega)).2]
  ·have e1:(f.roots++A.rj).getD t (0,0)=f.roots.getD t (0,0):=by rw[gD,List.getElem?_append_left ht,←gD]
   rw[e1];intro q;simp only[bI];omega
 | inr bi=>
  obtain⟨b,i⟩:=bi;obtain⟨g,hg,rfl⟩:=hp;obtain⟨hb,es,af,hi⟩:=hL;obtain⟨q,junk,e1,e2,e3,e4⟩:=h.getNode af;rw[hg]at e4;have D2:=(e4.arr g rfl).1;refine⟨_,(bG D2 (i:=i) (by simp;omega)).2.2,D2.frozen _,?_⟩;have e5:(es++junk).getD i e0=es.getD i e0:=by rw[gD,List.getElem?_append_left hi,←gD]
  simp only
  rw[e5];intro q;simp only[bI,aE af,ch];omega
theorem wU{A':Adr}(h:AdS X A A')(hp:gV A L p)(hX:∀b i,L=.ent b i→¬X b):gV A' L p:=by
 cases L with
 | inl t=>have FB:p=⟨A.ra,t*2+1,none⟩:=hp;show p=⟨A'.ra,_,none⟩;rw[h.ra];exact FB
 | inr bi=>
  obtain⟨b,i⟩:=bi;obtain⟨g,hg,e⟩:=hp;exact⟨g,by rw[h.α b (hX b i rfl)];exact hg,e⟩
theorem Sz.takeAt(h:Sz K f)(hK:1≤K)(hb:b<f.cur.length)(hd:d.2.length≤10):Sz K (takeAt f b d):=(h.setN hb hd).setC b (v:=1) (by omega) hK
theorem Sz.setL(h:Sz K f)(hL:dR f L)(q:Nat):Sz K (setL f L q):=by
 cases L with
 | inl t=>exact h.of rfl rfl h.cb fun _ _ q=>.inl q
 | inr bi=>
  obtain⟨b,i⟩:=bi;obtain⟨hb,es,af,hi⟩:=hL;have:=h.ent b _ af;exact h.setN hb (by simpa [setE,aE af] using this)
theorem iI(w:World)(ρ:Nat→Nat)(P:Nat)(A:Adr)(f:fZ)(J:List aQ)(L:Fo.Loc)(p:Addr)(h:St w ρ P A f J)(hI:IC f)(hz:Sz K f)(td:1≤K)(hK:K≤800000)(kz:J.length≤700000)(hL:dR f L)(hp:gV A L p)(qw:∀b i,L=.ent b i→Tch b J):
  Calls Tryz.prog 115 #[.pointer (some ⟨P,0,none⟩),.pointer (some p)] w (ShP w ρ P A f J L K):=by
 obtain⟨d,hd⟩:=aHE hI hL;obtain⟨g9,mj⟩:=h.getLoc hI hL hp;obtain⟨b,hb⟩:=eZ (bI f L);rw[hb]at hd g9;have d5:b<f.cur.length:=hz.lt b d hd;have CR:(b:Int) <(f.cur.length:Int):=by omega
 have Vw:(b:Int) <(f.com.length:Int):=by have:=hz.com;omega
 obtain⟨ja,jp,jj,hR,hJ⟩:=id h;obtain⟨m3,m4,m5,m7⟩:=hR.cells;have jh:=hR.count d5;have Cu:w.cell? ⟨A.d,b,none⟩=some (.int .i64 (co f b)):=aLC hR.hd (by rw[hz.com];exact d5);obtain⟨q,junk,hφ,wn,wl,hN⟩:=h.getNode hd;go_enter Tryz.func115,Tryz.ntmps115;by_cases ho:own f b
 ·have al:shadow f L=some (f,b):=by unfold shadow;rw[hb,if_pos ho]
  obtain⟨o1,o2⟩:=ho;rw[o1]at jh;rw[o2]at Cu;go_wp2_with fail;refine(lR _ ρ P A f J b h hz d5 (by omega)).mono ?_;rintro e w2 ⟨rfl,ρ2,ax,lh,-,-⟩;obtain⟨ja2,jp2,jj2,iu,ow⟩:=id ax;obtain⟨n3,n4,n5,n7⟩:=iu.cells;have gk:=iu.hm.lookup b (by have:=hz.n512;omega);rw[hφ]at gk;simp only[eQ,Option.map_some]at gk;go_wp2;go_ret;refine⟨fun q=>(by rw[al]at q;cases q),fun g c bp=>?_⟩;rw[al]at bp;cases bp;exact⟨ρ2,A,_,q,rfl,hφ,⟨ax,lh,(JS.save d5).up (by omega),AdS.refl _ _⟩,Tch.saved,hz.up (by omega)⟩
 ·have gk:=hR.hm.lookup b (by have:=hz.n512;omega)
  rw[hφ]at gk;simp only[eQ,Option.map_some]at gk;have g8:(cu f b≠1)∨(cu f b=1∧co f b≠0):=by
   by_cases c1:cu f b=1
   ·exact .inr ⟨c1,fun c2=>ho ⟨c1,c2⟩⟩
   ·exact .inl c1
  have HN:=aA hN;have SL:Hid (1≤cu f b):=by have:=hI.cu_pos hd;show 1≤cu f b;omega
  have ft:=hz.ent b d hd;have FJ:∀x,w.heap.size≤x→ρ x=0:=fun x hx=>Nat.eq_zero_of_not_pos fun q=>absurd (hR.own x (by omega)) (by omega);have Kf:∀b' i,L=.ent b' i→b'≠b:=fun b' i e e'=>by
   subst e;subst e';obtain⟨_,es,af,hi⟩:=hL;have hm:bI f (.ent b' i)∈kids (2,es):=by simp only[bI,aE af];exact gM hi
   rw[hb]at hm;exact hI.not_self af hm
  have pp:=hz.cb b;rcases g8 with c1 | ⟨c1,c2⟩
  ·have c1':(cu f b == 1)=false:=by simpa using c1
   go_wp2_with fail
   refine(mE q d (A.α b) junk _ hN ft).mono ?_;rintro e w1 ⟨u,rfl,⟨q1,a1,j1,rfl,k1,k2,k3⟩,hB⟩;have br:=h.below hB;go_wp2_with fail;refine(oM w1 ρ P A f J q1 d a1 j1 br hz (by omega) (by omega) k3 (FJ q1 k1) (fun g e=>FJ g (k2 g e))).mono ?_;intro e w2 hT;by_cases hl:aF f=0
   ·obtain⟨rfl,cx⟩:=hT.no hl
    have al:shadow f L=none:=by unfold shadow;rw[hb,if_neg ho,if_pos hl]
    exact⟨rfl,fun _=>⟨rfl,ρ,A,f,J,br.below cx,(Mv.of_below hB).trans (Mv.of_below cx) (fun _ _ e=>e),JS.refl _ _⟩,fun g c bp=>by rw[al]at bp;cases bp⟩
   ·obtain⟨rfl,ρ2,ax,lh,-⟩:=hT.yes hl
    have al:shadow f L=some (shadowAt f L (aF f),aF f):=by unfold shadow;rw[hb,if_neg ho,if_neg hl]
    obtain⟨l1,l2,l3,l4⟩:=aR hl;have de:f.nodes (aF f)=none:=(hI.dom.dead _).2 l3;generalize aF f=z at *;have DN:b≠z:=fun e=>by rw[e,de]at hd;cases hd
    have qz:Mv (fun _=>False) w ρ w2 ρ2:=((Mv.of_below (X:=fun x=>x=q1∨a1=some x) (ρ:=ρ) hB).trans lh (fun _ _ e=>e)).up fun x hx e=>by
     rcases e with e | e
     ·omega
     ·have:=k2 x e;omega
    have Dj:=zA hL de d;have Bp:gV (cV A z q1 a1) L p:=wU (AdS.put A z q1 a1) hp fun b' i e e'=>by
     subst e;subst e';obtain⟨_,es,af,hi⟩:=hL;rw[de]at af;cases af
    obtain⟨v2,jg,xq,-⟩:=ax.locCell Dj Bp;obtain⟨cq,Eu⟩:=ax.setLoc Dj Bp z;have vn:Sz K (setL (takeAt f z d) L z):=(hz.takeAt td l2 ft).setL Dj z;have EO:(setL (takeAt f z d) L z).nodes b=some d:=by
     have e1:(takeAt f z d).nodes b=some d:=by show upd f.nodes z (some d) b=_;rw[aC _ _ DN];exact hd
     cases L with
     | inl t=>exact e1
     | inr bi=>obtain⟨b',i⟩:=bi;exact(aC _ _ (Ne.symm (Kf b' i rfl))).trans e1
    have JO:cu (setL (takeAt f z d) L z) b=cu f b:=by
     unfold cu;rw[bE];exact jI f 1 DN
    have sy:JS 1 f J (setL (takeAt f z d) L z) (J++[(z,cu f z,f.nodes z)]):=((JS.save l2).trans (JS.takeAt d Tch.saved)).trans (JS.setL L z fun b' i e=>(JS.save l2).tch b' (qw b' i e));have pa:∀c∈kids d,c <(setL (takeAt f z d) L z).cur.length:=fun c hc=>by rw[bE];simpa [takeAt] using hI.kid_lt hd hc
    go_wp2_with fail
    refine(nU _ ρ2 P (cV A z q1 a1) (setL (takeAt f z d) L z) (J++[(z,cu f z,f.nodes z)]) b d cq vn (by omega) (by simp;omega) EO (by rw[JO];exact SL.out) pa (aCW hI hd)).mono ?_;rintro e w4 ⟨rfl,ρ4,J4,aw,Ak,CG,i9⟩;have Qp:letGo (setL (takeAt f z d) L z) b=shadowAt f L z:=by unfold shadowAt;rw[hb,aE hd]
    have Fa:=vG (jK Dj z).2 Kf;rw[(jK Dj z).1]at Fa;have IE:AdS (fun x=>x=z∨x=b) A (if cu (setL (takeAt f z d) L z) b=1 then gQ (cV A z q1 a1) b else cV A z q1 a1):=by
     split
     ·exact(AdS.put A z q1 a1).trans (AdS.del _ b)
     ·exact(AdS.put A z q1 a1).up fun x e=>.inl e
    have rz:(if cu (setL (takeAt f z d) L z) b=1 then gQ (cV A z q1 a1) b else cV A z q1 a1).φ z=some q1:=by
     split
     ·show upd (upd A.φ z (some q1)) b none z=_
      rw[aC _ _ (Ne.symm DN),aD]
     ·exact aD _ _ _
    generalize (if cu (setL (takeAt f z d) L z) b=1 then gQ (cV A z q1 a1) b else cV A z q1 a1)=A4 at *;rw[Qp]at aw CG i9 Fa;have RY:gV A4 L p:=wU IE hp fun b' i e e'=>by
     rcases e' with e' | e'
     ·subst e;subst e'
      obtain⟨_,es,af,hi⟩:=hL;rw[de]at af;cases af
     ·exact Kf b' i e e'
    obtain⟨I1,-⟩:=hI.shadow hL hb hd l1 l2 l3;obtain⟨QM,WI⟩:=aw.getLoc I1 Fa.1 RY;rw[Fa.2]at QM;obtain⟨ja4,jp4,jj4,li,IU⟩:=id aw;have o3:=li.cells.m3;have RL:∀n,(Instr.lookup 68 (.map (some A4.m)) (.int .i64 z) false).run Tryz.prog (w4.drewN n)=.ok (.pointer (some ⟨q1,0,none⟩)) (w4.drewN n):=fun n=>by
     have:=(li.hm.of (w':=w4.drewN n) rfl).lookup z (by have:=hz.n512;omega)
     rw[rz]at this;simpa only[eQ,Option.map_some] using this
    have pw:Dn 12 (fun x=>x=z∨x=b) w ρ P A f J w4 ρ4 A4 (shadowAt f L z) J4:=⟨aw,(qz.trans Eu (fun _ _ e=>e)).trans Ak (fun _ _ e=>e),sy.trans CG |>.up (by omega),IE⟩;have BQ:Tch z J4:=CG.tch z Tch.saved;have HF:=aA (aI pw (aI BQ i9));clear pw i9 BQ CG aw Ak sy cq Eu lh qz li IU hT ax;go_wp2;go_quiet (fail);go_wp2;go_ret;obtain⟨pw,BQ,i9⟩:=HF.out;refine⟨fun q=>(by rw[al]at q;cases q),fun g c bp=>?_⟩;rw[al]at bp;cases bp;exact⟨ρ4,A4,J4,q1,rfl,rz,by rw[hb];exact pw.below (below_drewN _ _),BQ,i9⟩
  ·have c2':(co f b == 0)=false:=by simpa using c2
   rw[c1]at jh;have HC:=aA c1;clear c1;go_wp2_with fail;refine(mE q d (A.α b) junk _ hN ft).mono ?_;rintro e w1 ⟨u,rfl,⟨q1,a1,j1,rfl,k1,k2,k3⟩,hB⟩;have br:=h.below hB;go_wp2_with fail;refine(oM w1 ρ P A f J q1 d a1 j1 br hz (by omega) (by omega) k3 (FJ q1 k1) (fun g e=>FJ g (k2 g e))).mono ?_;intro e w2 hT;by_cases hl:aF f=0
   ·obtain⟨rfl,cx⟩:=hT.no hl
    have al:shadow f L=none:=by unfold shadow;rw[hb,if_neg ho,if_pos hl]
    exact⟨rfl,fun _=>⟨rfl,ρ,A,f,J,br.below cx,(Mv.of_below hB).trans (Mv.of_below cx) (fun _ _ e=>e),JS.refl _ _⟩,fun g c bp=>by rw[al]at bp;cases bp⟩
   ·obtain⟨rfl,ρ2,ax,lh,-⟩:=hT.yes hl
    have al:shadow f L=some (shadowAt f L (aF f),aF f):=by unfold shadow;rw[hb,if_neg ho,if_neg hl]
    obtain⟨l1,l2,l3,l4⟩:=aR hl;have de:f.nodes (aF f)=none:=(hI.dom.dead _).2 l3;generalize aF f=z at *;have DN:b≠z:=fun e=>by rw[e,de]at hd;cases hd
    have qz:Mv (fun _=>False) w ρ w2 ρ2:=((Mv.of_below (X:=fun x=>x=q1∨a1=some x) (ρ:=ρ) hB).trans lh (fun _ _ e=>e)).up fun x hx e=>by
     rcases e with e | e
     ·omega
     ·have:=k2 x e;omega
    have Dj:=zA hL de d;have Bp:gV (cV A z q1 a1) L p:=wU (AdS.put A z q1 a1) hp fun b' i e e'=>by
     subst e;subst e';obtain⟨_,es,af,hi⟩:=hL;rw[de]at af;cases af
    obtain⟨v2,jg,xq,-⟩:=ax.locCell Dj Bp;obtain⟨cq,Eu⟩:=ax.setLoc Dj Bp z;have vn:Sz K (setL (takeAt f z d) L z):=(hz.takeAt td l2 ft).setL Dj z;have EO:(setL (takeAt f z d) L z).nodes b=some d:=by
     have e1:(takeAt f z d).nodes b=some d:=by show upd f.nodes z (some d) b=_;rw[aC _ _ DN];exact hd
     cases L with
     | inl t=>exact e1
     | inr bi=>obtain⟨b',i⟩:=bi;exact(aC _ _ (Ne.symm (Kf b' i rfl))).trans e1
    have JO:cu (setL (takeAt f z d) L z) b=cu f b:=by
     unfold cu;rw[bE];exact jI f 1 DN
    have sy:JS 1 f J (setL (takeAt f z d) L z) (J++[(z,cu f z,f.nodes z)]):=((JS.save l2).trans (JS.takeAt d Tch.saved)).trans (JS.setL L z fun b' i e=>(JS.save l2).tch b' (qw b' i e));have pa:∀c∈kids d,c <(setL (takeAt f z d) L z).cur.length:=fun c hc=>by rw[bE];simpa [takeAt] using hI.kid_lt hd hc
    go_wp2_with fail
    refine(nU _ ρ2 P (cV A z q1 a1) (setL (takeAt f z d) L z) (J++[(z,cu f z,f.nodes z)]) b d cq vn (by omega) (by simp;omega) EO (by rw[JO];exact SL.out) pa (aCW hI hd)).mono ?_;rintro e w4 ⟨rfl,ρ4,J4,aw,Ak,CG,i9⟩;have Qp:letGo (setL (takeAt f z d) L z) b=shadowAt f L z:=by unfold shadowAt;rw[hb,aE hd]
    have Fa:=vG (jK Dj z).2 Kf;rw[(jK Dj z).1]at Fa;have IE:AdS (fun x=>x=z∨x=b) A (if cu (setL (takeAt f z d) L z) b=1 then gQ (cV A z q1 a1) b else cV A z q1 a1):=by
     split
     ·exact(AdS.put A z q1 a1).trans (AdS.del _ b)
     ·exact(AdS.put A z q1 a1).up fun x e=>.inl e
    have rz:(if cu (setL (takeAt f z d) L z) b=1 then gQ (cV A z q1 a1) b else cV A z q1 a1).φ z=some q1:=by
     split
     ·show upd (upd A.φ z (some q1)) b none z=_
      rw[aC _ _ (Ne.symm DN),aD]
     ·exact aD _ _ _
    generalize (if cu (setL (takeAt f z d) L z) b=1 then gQ (cV A z q1 a1) b else cV A z q1 a1)=A4 at *;rw[Qp]at aw CG i9 Fa;have RY:gV A4 L p:=wU IE hp fun b' i e e'=>by
     rcases e' with e' | e'
     ·subst e;subst e'
      obtain⟨_,es,af,hi⟩:=hL;rw[de]at af;cases af
     ·exact Kf b' i e e'
    obtain⟨I1,-⟩:=hI.shadow hL hb hd l1 l2 l3;obtain⟨QM,WI⟩:=aw.getLoc I1 Fa.1 RY;rw[Fa.2]at QM;obtain⟨ja4,jp4,jj4,li,IU⟩:=id aw;have o3:=li.cells.m3;have RL:∀n,(Instr.lookup 68 (.map (some A4.m)) (.int .i64 z) false).run Tryz.prog (w4.drewN n)=.ok (.pointer (some ⟨q1,0,none⟩)) (w4.drewN n):=fun n=>by
     have:=(li.hm.of (w':=w4.drewN n) rfl).lookup z (by have:=hz.n512;omega)
     rw[rz]at this;simpa only[eQ,Option.map_some] using this
    have pw:Dn 12 (fun x=>x=z∨x=b) w ρ P A f J w4 ρ4 A4 (shadowAt f L z) J4:=⟨aw,(qz.trans Eu (fun _ _ e=>e)).trans Ak (fun _ _ e=>e),sy.trans CG |>.up (by omega),IE⟩;have BQ:Tch z J4:=CG.tch z Tch.saved;have HF:=aA (aI pw (aI BQ i9));clear pw i9 BQ CG aw Ak sy cq Eu lh qz li IU hT ax;go_wp2;go_quiet (fail);go_wp2;go_ret;obtain⟨pw,BQ,i9⟩:=HF.out;refine⟨fun q=>(by rw[al]at q;cases q),fun g c bp=>?_⟩;rw[al]at bp;cases bp;exact⟨ρ4,A4,J4,q1,rfl,rz,by rw[hb];exact pw.below (below_drewN _ _),BQ,i9⟩
theorem dB{W:World}{x:Nat}(h:W.heap[x]?=w.heap[x]?)(i:Nat):W.cell? ⟨x,i,none⟩=w.cell? ⟨x,i,none⟩:=by simp[World.cell?,h]
theorem St.rootCell{J:List aQ}(h:St w ρ P A f J){t:Nat}(ht:t<f.roots.length)(h0:0≤(f.roots.getD t (0,0)).2):w.cell? ⟨A.ra,t*2+1,none⟩=some (.int .i64 (aB f t))∧w.frozen? ⟨A.ra,t*2+1,none⟩=false:=by
 obtain⟨_,_,_,hR,_⟩:=id h;refine⟨?_,hR.hr.frozen _⟩;rw[hR.hr.cell,(lB (f.roots++A.rj) (i:=t) (by simp;omega)).2];have e1:(f.roots++A.rj).getD t (0,0)=f.roots.getD t (0,0):=by rw[gD,List.getElem?_append_left ht,←gD]
 rw[e1];simp only[aB];rw[show(((f.roots.getD t (0,0)).2.toNat:Nat):Int)=(f.roots.getD t (0,0)).2 by omega]
theorem aM.first(h:aM w q d a junk){g:Nat}(ha:a=Option.some g){n:Nat}(hn:d.2.length=n)(h0:0<n):w.cell? ⟨q,1,none⟩=Option.some (.slice (Option.some ⟨g,0,none⟩) n (n+junk.length))∧w.cell? ⟨g,0,none⟩=Option.some (.string (ky d.2 0)):=by
 subst ha;refine⟨by rw[h.box.cell];simp[adr,hn],?_⟩;have:=(bG (h.arr g rfl).1 (i:=0) (by simp;omega)).1;rw[gD,List.getElem?_append_left (by omega),←gD]at this;simpa [ky] using this
theorem aM.arrOf(h:aM w q d a junk)(h0:0<d.2.length):∃g,a=Option.some g:=by
 obtain⟨g,e,_⟩:=h.some h0;exact⟨g,e⟩
theorem iT(W:World)(k:ByteArray)(c:Int):(Instr.build 110 #[(0,.string k),(2,.int .i64 c)]).run Tryz.prog W=.ok (.agg #[.string k,.string .empty,.int .i64 c]) W:=by kernel_rfl
theorem aKA(W:World)(k0 v0 k1 v1:ByteArray)(c0 c1:Int):(Instr.buildSlice 106 2 #[(0,.agg #[.string k0,.string v0,.int .i64 c0]),(1,.agg #[.string k1,.string v1,.int .i64 c1])]).run Tryz.prog W=.ok (.slice (some ⟨W.heap.size,0,none⟩) 2 2) (W.alloc (.cells #[.string k0,.string v0,.int .i64 c0,.string k1,.string v1,.int .i64 c1] 110)):=by kernel_rfl
structure GrS(q g q1 g1:Nat)(p:Addr)(n c n1 c1:Nat)(k0 k1:ByteArray)(r:Nat)(w:World):Prop where
 a1:w.cell? ⟨q,1,none⟩=some (.slice (some ⟨g,0,none⟩) 3 c)
 a2:w.cell? ⟨g,0,none⟩=some (.string k0)
 a3:w.cell? p=some (.int .i64 r)
 a4:w.cell? ⟨q1,1,none⟩=some (.slice (some ⟨g1,0,none⟩) 2 c1)
 a5:w.cell? ⟨g1,0,none⟩=some (.string k1)
structure GrP(w:World)(ρ:Nat→Nat)(P:Nat)(A:Adr)(f:fZ)(J:List aQ)(t r:Nat)(K:Int)(e:Ending)(w':World):Prop where
 no:bM f t r=none→Pk 2 w ρ P f J e w'
 yes:∀g top,bM f t r=some (g,top)→∃ρ' A' J' q,e=.returned (.pointer (some ⟨q,0,none⟩))∧A'.φ top=some q∧Dn 2 (fun _=>True) w ρ P A f J w' ρ' A' g J'∧Tch top J'∧Sz K g
theorem yL(w:World)(ρ:Nat→Nat)(P:Nat)(A:Adr)(f:fZ)(J:List aQ)(t r:Nat)(k:Int)(es:List E3)(h:St w ρ P A f J)(hI:IC f)(hz:Sz K f)(td:1≤K)(hK:K≤800000)(kz:J.length≤700000)(ht:t<f.roots.length)(hr:aB f t=r)(hd:f.nodes r=some (k,es))(h5:es.length=5)(qw:Tch r J):
  Calls Tryz.prog 117 #[.pointer (some ⟨P,0,none⟩),.pointer (some ⟨A.ra,t*2+1,none⟩)] w (GrP w ρ P A f J t r K):=by
 have qv:r<f.cur.length:=hz.lt r _ hd;have h0:0≤(f.roots.getD t (0,0)).2:=(hI.rb _ (aO ht)).1;obtain⟨yz,-⟩:=h.rootCell ht h0;rw[hr]at yz;obtain⟨ja,jp,jj,hR,hJ⟩:=id h;have m3:=hR.cells.m3;obtain⟨q,junk,hφ,wn,wl,hN⟩:=h.getNode hd;obtain⟨g,hg⟩:=hN.arrOf (by simp;omega);rw[hg]at hN;have gk:∀n,(Instr.lookup 68 (.map (some A.m)) (.int .i64 r) false).run Tryz.prog (w.drewN n)=.ok (.pointer (some ⟨q,0,none⟩)) (w.drewN n):=fun n=>by
  have:=(hR.hm.of (w':=w.drewN n) rfl).lookup r (by have:=hz.n512;omega)
  rw[hφ]at this;simpa only[eQ,Option.map_some] using this
 have Gm:=iT;have lk:=aKA;have so:=gS;have HR:=aA (aI hr h5);clear hr h5;go_enter Tryz.func117,Tryz.ntmps117;go_wp2;go_quiet (fail);clear gk m3 yz;go_wp2_with fail;refine(oH q g k es junk _ (hN.below (below_drewN _ _)) (by have:=HR.out.2;omega) (by have:=HR.out.2;omega)).mono ?_;rintro e w1 ⟨q1,a1,j1,junk1,rfl,k1,k2,k3,k4,kF⟩;have kF':Frm (fun x=>x=q∨A.α r=some x) w w1:=(Frm.of_below (below_drewN _ _)).trans (kF.wide fun x _ e=>by rcases e with e | e;exact .inl e;right;rw[hg,e]);have e53:es.length-2=3:=by have:=HR.out.2;omega
 rw[e53]at k3 k4;obtain⟨br,DJ⟩:=h.nodeSame hd hφ kF' (by rw[hg];exact k4);have C6:w.heap.size≤q1:=k1;have FJ:∀x,w.heap.size≤x→ρ x=0:=fun x hx=>Nat.eq_zero_of_not_pos fun q=>absurd (hR.own x (by omega)) (by omega);have fz:Sz K (setN f r (k,es.take 3)):=hz.setN qv (by simp;omega);have ot:JS 0 f J (setN f r (k,es.take 3)) J:=JS.setN _ qw;obtain⟨g1,g9⟩:=k3.arrOf (by have:=HR.out.2;simp;omega);subst g9;have k2':w.heap.size≤g1:=k2 g1 rfl;have Jt:Fo.look f r=(k,es):=aE hd;go_wp2_with fail;refine(oM w1 ρ P A _ J q1 (k,es.drop 3) (some g1) j1 br fz (by omega) (by omega) k3 (FJ q1 C6) (fun x e=>by cases e;exact FJ g1 k2')).mono ?_;intro e w2 hT;by_cases hl:aF f=0
 ·obtain⟨rfl,cx⟩:=hT.no hl
  have al:bM f t r=none:=by unfold bM;rw[if_pos hl]
  exact⟨rfl,fun _=>⟨rfl,ρ,A,_,J,br.below cx,DJ.trans (Mv.of_below cx) (fun _ _ e=>e),ot.up (by omega)⟩,fun g c bp=>by rw[al]at bp;cases bp⟩
 ·obtain⟨he,ρ2,ax,lh,-⟩:=hT.yes hl
  have Au:aF (setN f r (k,es.take 3))=aF f:=rfl;rw[Au]at he ax;subst he;obtain⟨l1,l2,l3,l4⟩:=aR hl;have de:f.nodes (aF f)=none:=(hI.dom.dead _).2 l3;have HG:Hid (bM f t r=if aF (takeAt (setN f r (k,es.take 3)) (aF f) (k,es.drop 3))=0 then none else some (growF f t r k es 3 (aF f) (aF (takeAt (setN f r (k,es.take 3)) (aF f) (k,es.drop 3))) (ky es 0) (ky es 3),aF (takeAt (setN f r (k,es.take 3)) (aF f) (k,es.drop 3)))):=by
   show bM f t r=_
   unfold bM;rw[if_neg hl,Jt]
  generalize aF f=z at *;have NG:r≠z:=fun e=>by rw[e,de]at hd;cases hd
  have qz:Mv (fun _=>False) w ρ w2 ρ2:=((DJ.up (Y:=fun x=>x=q1∨some g1=some x) (fun _ _ e=>e.elim)).trans lh (fun _ _ e=>e)).up fun x hx e=>by
   rcases e with e | e
   ·omega
   ·cases e;omega
  have Ae:Sz K (takeAt (setN f r (k,es.take 3)) z (k,es.drop 3)):=fz.takeAt td l2 (by simp;omega);have tg:(takeAt (setN f r (k,es.take 3)) z (k,es.drop 3)).nodes r=some (k,es.take 3):=by
   show upd (upd f.nodes r _) z _ r=_
   rw[aC _ _ NG,aD]
  have MT:(takeAt (setN f r (k,es.take 3)) z (k,es.drop 3)).nodes z=some (k,es.drop 3):=aD _ _ _;obtain⟨jg,Jd⟩:=ax.rootCell (t:=t) ht h0;rw[show aB (takeAt (setN f r (k,es.take 3)) z (k,es.drop 3)) t=r from HR.out.1,show(cV A z q1 (some g1)).ra=A.ra from rfl]at jg;obtain⟨q',junk2,u1,-,-,u2⟩:=ax.getNode tg;have u3:(cV A z q1 (some g1)).φ r=some q:=by show upd A.φ z _ r=_;rw[aC _ _ NG];exact hφ
  rw[u3]at u1;cases u1;have u4:(cV A z q1 (some g1)).α r=some g:=by show upd A.α z _ r=_;rw[aC _ _ NG];exact hg
  obtain⟨q1',junk3,v1,-,-,v2⟩:=ax.getNode MT;have v3:(cV A z q1 (some g1)).φ z=some q1:=aD _ _ _;rw[v3]at v1;cases v1;have v4:(cV A z q1 (some g1)).α z=some g1:=aD _ _ _;have f1:=u2.first u4 (n:=3) (by have:=HR.out.2;simp;omega) (by omega);have f2:=v2.first v4 (n:=2) (by have:=HR.out.2;simp;omega) (by omega);have ek0:ky (es.take 3) 0=ky es 0:=by unfold ky;simp[gD,List.getElem?_take]
  have ek1:ky (es.drop 3) 0=ky es 3:=by unfold ky;simp[gD]
  rw[ek0]at f1;rw[ek1]at f2;have ai:∀x,(x=q∨x=g∨x=A.ra∨x=q1∨x=g1)→x<w2.heap.size:=fun x hx=>by
   obtain⟨_,_,_,iu,_⟩:=id ax;rcases hx with e | e | e | e | e<;>rw[e]
   ·exact u2.box.lt
   ·exact(u2.arr g u4).1.lt
   ·exact iu.hr.lt
   ·exact v2.box.lt
   ·exact(v2.arr g1 v4).1.lt
  have HS:Hid (∀W:World,(∀x,(x=q∨x=g∨x=A.ra∨x=q1∨x=g1)→W.heap[x]?=w2.heap[x]?)→GrS q g q1 g1 ⟨A.ra,t*2+1,none⟩ 3 (3+junk2.length) 2 (2+junk3.length) (ky es 0) (ky es 3) r W):=fun W hW=>
   ⟨(dB (hW _ (by simp)) _).trans f1.1,(dB (hW _ (by simp)) _).trans f1.2,(dB (hW _ (by simp)) _).trans jg,(dB (hW _ (by simp)) _).trans f2.1,(dB (hW _ (by simp)) _).trans f2.2⟩
  have ak:=HS.out w2.drew (fun _ _=>rfl);obtain⟨f2',Fx⟩:∃f2',f2'=takeAt (setN f r (k,es.take 3)) z (k,es.drop 3):=⟨_,rfl⟩;have sk:=aA Fx;have ow:JS 1 f J f2' (J++[(z,cu (setN f r (k,es.take 3)) z,(setN f r (k,es.take 3)).nodes z)]):=by rw[Fx];exact(ot.trans (JS.save l2)).trans (JS.takeAt _ Tch.saved)
  rw[←Fx]at ax Ae HG;generalize J++[(z,cu (setN f r (k,es.take 3)) z,(setN f r (k,es.take 3)).nodes z)]=J2 at *;obtain⟨c2,AE⟩:∃c2,c2=3+junk2.length:=⟨_,rfl⟩;obtain⟨c3,JB⟩:∃c3,c3=2+junk3.length:=⟨_,rfl⟩;rw[←AE,←JB]at HS ak;obtain⟨y0,R5⟩:∃y0,y0=ky es 0:=⟨_,rfl⟩;obtain⟨y1,R6⟩:∃y1,y1=ky es 3:=⟨_,rfl⟩;rw[←R5,←R6]at HS ak HG;have HL:=aA ai;clear Fx AE JB R5 R6 f1 f2 jg u2 v2 tg MT hT lh br DJ k3 k4 kF kF' hN ai Jd ek0 ek1 u3 v3 e53;go_wp2;refine aZ (GrS q g q1 g1 ⟨A.ra,t*2+1,none⟩ 3 c2 2 c3 y0 y1 r) 27 (by kernel_rfl) ?_;refine tJ 0 21 (.pointer (some ⟨A.ra,t*2+1,none⟩)) rfl ak ?_;simp only[Act.put,sB,sZ,sS];refine tJ 1 22 (.pointer (some ⟨P,0,none⟩)) rfl ak ?_;simp only[Act.put,sB,sZ,sS];refine tJ 2 23 (.pointer (some ⟨q,0,none⟩)) rfl ak ?_;simp only[Act.put,sB,sZ,sS];refine tJ 3 24 (.pointer (some ⟨q,0,none⟩)) rfl ak ?_;simp only[Act.put,sB,sZ,sS];refine tJ 4 25 (.pointer (some ⟨q,1,none⟩)) rfl ak ?_;simp only[Act.put,sB,sZ,sS];refine tJ 5 26 (.slice (some ⟨g,0,none⟩) 3 c2) rfl ak ?_;simp only[Act.put,sB,sZ,sS];refine tJ 6 27 (.pointer (some ⟨g,0,none⟩)) rfl ak ?_;simp only[Act.put,sB,sZ,sS];refine tJ 7 28 (.pointer (some ⟨g,0,none⟩)) rfl ak ?_;simp only[Act.put,sB,sZ,sS];refine tJ 8 29 (.string y0) rfl ak ?_;simp only[Act.put,sB,sZ,sS];refine tJ 9 30 (.pointer (some ⟨A.ra,t*2+1,none⟩)) rfl ak ?_;simp only[Act.put,sB,sZ,sS];refine tJ 10 31 (.pointer (some ⟨A.ra,t*2+1,none⟩)) rfl ak ?_;simp only[Act.put,sB,sZ,sS];refine tJ 11 32 (.int .i64 r) rfl ak ?_;simp only[Act.put,sB,sZ,sS];refine tJ 12 33 (.agg #[.string y0,.string .empty,.int .i64 r]) rfl ak ?_;simp only[Act.put,sB,sZ,sS];refine tJ 13 34 (.pointer (some ⟨q1,0,none⟩)) rfl ak ?_;simp only[Act.put,sB,sZ,sS];refine tJ 14 35 (.pointer (some ⟨q1,0,none⟩)) rfl ak ?_;simp only[Act.put,sB,sZ,sS];refine tJ 15 36 (.pointer (some ⟨q1,1,none⟩)) rfl ak ?_;simp only[Act.put,sB,sZ,sS];refine tJ 16 37 (.slice (some ⟨g1,0,none⟩) 2 c3) rfl ak ?_;simp only[Act.put,sB,sZ,sS];refine tJ 17 38 (.pointer (some ⟨g1,0,none⟩)) rfl ak ?_;simp only[Act.put,sB,sZ,sS];refine tJ 18 39 (.pointer (some ⟨g1,0,none⟩)) rfl ak ?_;simp only[Act.put,sB,sZ,sS];refine tJ 19 40 (.string y1) rfl ak ?_;simp only[Act.put,sB,sZ,sS];refine tJ 20 41 (.int .i64 z) rfl ak ?_;simp only[Act.put,sB,sZ,sS];refine tJ 21 42 (.agg #[.string y1,.string .empty,.int .i64 z]) rfl ak ?_;simp only[Act.put,sB,sZ,sS];obtain⟨G3,Ot⟩:=exH (w2.heap.size);refine oE 22 rfl fun K2 ae=>?_;go_simp;obtain⟨W3,PD⟩:=exH ((w2.alloc (.cells #[.string y0,.string .empty,.int .i64 r,.string y1,.string .empty,.int .i64 z] 110)).drew);rw[←PD.out,←Ot.out];have q7:IsC W3 G3 (bW [(y0,.empty,(r:Int)),(y1,.empty,(z:Int))]) 110:=by rw[PD.out,Ot.out];exact(IsC.new w2 _ _).drew
  have fj:Bl w2 W3:=by rw[PD.out];exact((bQ w2.heap.size w2).alloc (nR _) _).drew
  have qu:=HS.out W3 fun x hx=>fj.block x (HL.out x hx);refine ae _ _ (fun _=>qu) ?_;clear ae K2 ak;refine oE 23 rfl fun K2 ae=>?_;go_simp;refine ae _ _ (fun _=>qu) ?_;clear ae K2;refine oE 24 rfl fun K2 ae=>?_;go_simp;obtain⟨Q4,Nw⟩:=exH (W3.heap.size);obtain⟨W4,Cf⟩:=exH (W3.alloc (.cells #[.int .i64 2,.slice (some ⟨G3,0,none⟩) 2 2] 108));rw[←Cf.out,←Nw.out];have dm:Bl w2 W4:=by rw[Cf.out];exact fj.alloc fj.size _
  have Br:=HS.out W4 fun x hx=>dm.block x (HL.out x hx);have Dm:aM W4 Q4 (2,[(y0,.empty,(r:Int)),(y1,.empty,(z:Int))]) (some G3) []:=by
   refine⟨?_,fun x e=>?_,fun e=>(by cases e),by simp[maxLen]⟩
   ·rw[Cf.out,Nw.out];exact IsC.new _ _ _
   ·cases e
    refine⟨?_,?_⟩
    ·rw[Cf.out];simpa using q7.alloc _
    ·rw[Nw.out];exact Nat.ne_of_lt q7.lt
  have Va:w2.heap.size≤Q4:=by rw[Nw.out];exact fj.size
  have VM:w2.heap.size≤G3:=by rw[Ot.out];exact nR _
  refine ae _ _ (fun _=>Br) ?_;clear ae K2 qu;have aw:=ax.below dm;have UG:∀x,w2.heap.size≤x→ρ2 x=0:=fun x hx=>Nat.eq_zero_of_not_pos fun q=>by
   obtain⟨_,_,_,iu,_⟩:=id ax;exact absurd (iu.own x (by omega)) (by omega)
  have VO:J2.length≤700001:=by have:=ow.len;omega
  refine oE 25 rfl fun K2 ae=>?_;go_simp;refine(oM W4 ρ2 P (cV A z q1 (some g1)) f2' J2 Q4 _ (some G3) [] aw Ae (by omega) (by omega) Dm (UG _ Va) (fun x e=>by cases e;exact UG _ VM)).mono ?_;intro e w5 hT;by_cases Gy:aF f2'=0
  ·obtain⟨rfl,qy⟩:=hT.no Gy
   have al:bM f t r=none:=by rw[HG.out,if_pos Gy]
   exact⟨rfl,fun _=>⟨rfl,ρ2,_,f2',J2,aw.below qy,(qz.trans (Mv.of_below dm) (fun _ _ e=>e)).trans (Mv.of_below qy) (fun _ _ e=>e),ow.up (by omega)⟩,fun g c bp=>by rw[al]at bp;cases bp⟩
  ·obtain⟨rfl,ρ5,cw,ng,el⟩:=hT.yes Gy
   have al:bM f t r=some (growF f t r k es 3 z (aF f2') y0 y1,aF f2'):=by rw[HG.out,if_neg Gy]
   obtain⟨n1,n2,n3,n4⟩:=aR Gy;have Et:JS 2 f J (takeAt f2' (aF f2') (2,[(y0,.empty,(r:Int)),(y1,.empty,(z:Int))])) (J2++[(aF f2',cu f2' (aF f2'),f2'.nodes (aF f2'))]):=(ow.trans (JS.save n2)).trans (JS.takeAt _ Tch.saved);have Ih:Tch (aF f2') (J2++[(aF f2',cu f2' (aF f2'),f2'.nodes (aF f2'))]):=Tch.saved;have Af:Sz K (takeAt f2' (aF f2') (2,[(y0,.empty,(r:Int)),(y1,.empty,(z:Int))])):=Ae.takeAt td n2 (by simp);have fi:∀x,x<w2.heap.size→ρ2 x≠1→ρ2 x≠6→ρ2 x≠3→ρ2 x≠4→w5.heap[x]?=w2.heap[x]?:=fun x hx e1 e2 e3 e4=>(el.block x (lL hx dm.size) (by omega)).trans (dm.block x hx);generalize J2++[(aF f2',cu f2' (aF f2'),f2'.nodes (aF f2'))]=J5 at *;generalize aF f2'=top at *;have Dl:Mv (fun _=>False) w ρ w5 ρ5:=(((qz.trans (Mv.of_below dm) (fun _ _ e=>e)).up (Y:=fun x=>x=Q4∨some G3=some x) (fun _ _ e=>e.elim)).trans ng (fun _ _ e=>e)).up fun x hx e=>by
    have:=qz.frm.size
    rcases e with e | e
    ·omega
    ·cases e;omega
   have er:(takeAt f2' top (2,[(y0,.empty,(r:Int)),(y1,.empty,(z:Int))])).roots=f.roots:=by show f2'.roots=_;rw[sk.out];rfl
   obtain⟨EI,MY⟩:=cw.rootCell (t:=t) (by rw[er];exact ht) (by rw[er];exact h0);have fk:aB (takeAt f2' top (2,[(y0,.empty,(r:Int)),(y1,.empty,(z:Int))])) t=r:=by unfold aB;rw[er];exact HR.out.1
   rw[fk,show(cV (cV A z q1 (some g1)) top Q4 (some G3)).ra=A.ra from rfl]at EI;rw[show(cV (cV A z q1 (some g1)) top Q4 (some G3)).ra=A.ra from rfl]at MY;have OE:dR (takeAt f2' top (2,[(y0,.empty,(r:Int)),(y1,.empty,(z:Int))])) (.root t):=by show t<_;rw[er];exact ht
   obtain⟨la,BM⟩:=cw.setLoc OE (p:=⟨A.ra,t*2+1,none⟩) rfl top;have Ho:=Af.setL OE top;have Pd:=Et.trans (JS.setL (.root t) top fun b i e=>(by cases e));have Ar:setL (takeAt f2' top (2,[(y0,.empty,(r:Int)),(y1,.empty,(z:Int))])) (.root t) top=growF f t r k es 3 z top y0 y1:=by rw[sk.out];rfl
   rw[Ar]at la Ho Pd;have cy:ρ2 q=cE r∧ρ2 g=cB r∧ρ2 A.ra=2∧ρ2 q1=cE z∧ρ2 g1=cB z:=by
    obtain⟨_,_,_,iu,_⟩:=id ax;obtain⟨x1,y1',z1,z2,z3,-⟩:=ax.getNode (b:=r) (d:=(k,es.take 3)) (by rw[sk.out];show upd (upd f.nodes r _) z _ r=_;rw[aC _ _ NG,aD]);obtain⟨x2,y2',v1,v2,v3,-⟩:=ax.getNode (b:=z) (d:=(k,es.drop 3)) (by rw[sk.out];exact aD _ _ _);have u3:(cV A z q1 (some g1)).φ r=some q:=by show upd A.φ z _ r=_;rw[aC _ _ NG];exact hφ
    rw[u3]at z1;cases z1;rw[show(cV A z q1 (some g1)).φ z=some q1 from aD _ _ _]at v1;cases v1;exact⟨z2,z3 g u4,iu.rr,v2,v3 g1 v4⟩
   have ly:=HS.out w5 fun x hx=>by
    obtain⟨o1,o2,o3,o4,o5⟩:=cy;refine fi x (HL.out x hx) ?_ ?_ ?_ ?_<;>(rcases hx with e | e | e | e | e<;>rw[e]<;>first | rw[o1] | rw[o2] | rw[o3] | rw[o4] | rw[o5])<;>first | omega | (unfold cE;omega) | (unfold cB;omega)
   have Ob:(cV (cV A z q1 (some g1)) top Q4 (some G3)).φ top=some Q4:=aD _ _ _;obtain⟨ja6,jp6,jj6,DL,Pe⟩:=id la;have o3:=DL.cells.m3;rw[show(cV (cV A z q1 (some g1)) top Q4 (some G3)).m=A.m from rfl]at o3;have M8:aB (growF f t r k es 3 z top y0 y1) t=top:=by
    rw[←Ar];exact(jK OE top).1
   have NA:(growF f t r k es 3 z top y0 y1).roots.length=f.roots.length:=by rw[←Ar];show(List.set _ _ _).length=_;rw[List.length_set,er]
   have L4:((growF f t r k es 3 z top y0 y1).roots.getD t (0,0)).2=(top:Int):=by
    rw[←Ar];show((List.set _ t _).getD t (0,0)).2=_
    rw[bA _ _ _ _ _ (by rw[er];exact ht),if_pos rfl]
   have X8:(w5.setCell ⟨A.ra,t*2+1,none⟩ (.int .i64 (top:Int))).cell? ⟨A.ra,t*2+1,none⟩=some (.int .i64 (top:Int)):=by
    have h6:=(la.rootCell (t:=t) (by rw[NA];exact ht) (by rw[L4];omega)).1;rw[M8]at h6;exact h6
   have We:∀n,(Instr.lookup 68 (.map (some A.m)) (.int .i64 top) false).run Tryz.prog ((w5.setCell ⟨A.ra,t*2+1,none⟩ (.int .i64 (top:Int))).drewN n)=.ok (.pointer (some ⟨Q4,0,none⟩)) ((w5.setCell ⟨A.ra,t*2+1,none⟩ (.int .i64 (top:Int))).drewN n):=fun n=>by
    have:=(DL.hm.of (w':=(w5.setCell ⟨A.ra,t*2+1,none⟩ (.int .i64 (top:Int))).drewN n) rfl).lookup top (by have:=Ho.n512;have:=n2;have:=Ae.n512;omega)
    rw[Ob]at this;rw[show(cV (cV A z q1 (some g1)) top Q4 (some G3)).m=A.m from rfl]at this;simpa only[eQ,Option.map_some] using this
   have HF:=aA (show Dn 2 (fun _=>True) w ρ P A f J (w5.setCell ⟨A.ra,t*2+1,none⟩ (.int .i64 (top:Int))) ρ5 (cV (cV A z q1 (some g1)) top Q4 (some G3)) (growF f t r k es 3 z top y0 y1) J5∧Tch top J5∧Sz K (growF f t r k es 3 z top y0 y1)from⟨⟨la,Dl.trans BM (fun _ _ e=>e),Pd.up (by omega),⟨rfl,rfl,rfl,rfl,rfl,rfl,rfl,fun _ q=>absurd trivial q,fun _ q=>absurd trivial q⟩⟩,Ih,Ho⟩);have CD:=aA al;refine ae _ _ (fun _=>ly) ?_;clear ae K2 Br al la BM Ho Pd Ar M8 NA L4 DL Pe cw ng el Et Ih Af fi Dl er fk OE cy hT ax aw qz Ae ow HG;refine oE 26 rfl fun K2 ae=>?_;go_simp;refine ae _ _ (fun _=>ly) ?_;clear ae K2;refine oE 27 rfl fun K2 ae=>?_;go_simp;refine ae _ _ (fun q=>absurd rfl q) ?_;clear ae K2;refine aS (by kernel_rfl) ?_ _;go_wp2;go_quiet (fail);go_wp2;go_ret;obtain⟨pw,BQ,i9⟩:=HF.out;refine⟨fun q=>(by rw[CD.out]at q;cases q),fun g c bp=>?_⟩;rw[CD.out]at bp;cases bp;exact⟨ρ5,_,J5,Q4,rfl,Ob,pw.below (below_drewN _ _),BQ,i9⟩
