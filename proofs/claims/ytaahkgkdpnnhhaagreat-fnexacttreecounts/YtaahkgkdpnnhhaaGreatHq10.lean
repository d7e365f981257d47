import Derived.Test.YtaahkgkdpnnhhaaGreatHq9
set_option maxHeartbeats 9999999
set_option maxRecDepth 99999
set_option linter.all false
namespace Go.Proofs.YtaahkgkdpnnhhaaGreat
open Go.RowKit Fo
theorem aDV{f:fZ}{b:Nat}{d:Nd}(h:f.nodes b=some d):setN f b d=f:=by
 have:upd f.nodes b (some d)=f.nodes:=funext fun x=>by by_cases e:x=b<;>simp[upd,e,h]
 unfold setN;rw[this]
theorem qW(W:World)(k0 v0:ByteArray)(c0:Int):(Instr.buildSlice 106 1 #[(0,.agg #[.string k0,.string v0,.int .i64 c0])]).run Tryz.prog W=.ok (.slice (some ⟨W.heap.size,0,none⟩) 1 1) (W.alloc (.cells #[.string k0,.string v0,.int .i64 c0] 110)):=by kernel_rfl
theorem St.ins{w w1:World}{ρ:Nat→Nat}{P:Nat}{A:Adr}{f:fZ}{J:List aR}(h:St w ρ P A f J){b q:Nat}{k:Int}{es ls:List E3}(hb:f.nodes b=some (k,es))(hφ:A.φ b=some q){u:Value}(hI:zZ w w1 (A.α b) u ls):
  ∃a',(∃g,a'=some g)∧St (w1.setCell ⟨q,1,none⟩ u) (jB ρ a' b) P (dL A b a') (setN f b (k,ls)) J∧Mv (fun _=>False) w ρ (w1.setCell ⟨q,1,none⟩ u) (jB ρ a' b)∧(∃c,w1.cell? ⟨q,1,none⟩=some c)∧w1.frozen? ⟨q,1,none⟩=false:=by
 obtain⟨⟨a',junk',rfl,h1,h2,h3⟩,hF⟩:=hI;obtain⟨q',junk,e1,e2,e3,e4⟩:=h.getNode hb;rw[hφ]at e1;cases e1;have hq1:IsC w1 q _ _:=e4.box.frm hF (fun e=>(e4.arr q e).2 rfl);have hne:∀g,a'=some g→g≠q:=fun g e=>by
  rcases(h1 g e).2 with e' | e'
  ·exact(e4.arr g e').2
  ·have:=e4.box.lt;omega
 have hF2:Frm (fun x=>x=q∨A.α b=some x) w (w1.setCell ⟨q,1,none⟩ (.slice (adr a') ls.length (ls.length+junk'.length))):=(hF.wide fun x _ e=>.inr e).trans (Frm.set w1 (p:=⟨q,1,none⟩) (.inl rfl) _);have hN:aM (w1.setCell ⟨q,1,none⟩ (.slice (adr a') ls.length (ls.length+junk'.length))) q (k,ls) a' junk':=by
  refine⟨?_,fun g e=>⟨(h1 g e).1.set_ne _ (hne g e),hne g e⟩,fun e=>absurd e h2,h3⟩;have:=hq1.set 1 (.slice (adr a') ls.length (ls.length+junk'.length));simpa using this
 have:=h.node hb hφ hF2 hN (fun g e=>(h1 g e).2)
 refine⟨a',?_,this.1,this.2,⟨_,hq1.c rfl⟩,hq1.frozen 1⟩;cases a' with
 | none=>exact absurd rfl h2
 | some g=>exact⟨g,rfl⟩
structure DnP(w:World)(ρ:Nat→Nat)(P:Nat)(A:Adr)(f:fZ)(J:List aR)(b:Nat)(key:ByteArray)(K:Int)(e:Ending)(w':World):Prop where
 no:stepDown f b key=none→Pk 13 w ρ P f J e w'
 yes:∀g c,stepDown f b key=some (g,c)→∃ρ' A' J' q,e=.returned (.pointer (some ⟨q,0,none⟩))∧A'.φ c=some q∧Dn 13 (fun _=>True) w ρ P A f J w' ρ' A' g J'∧Tch c J'∧Sz (K+10) g
theorem AdS.top{X:Nat→Prop}{A A':Adr}(h:AdS X A A'):AdS (fun _=>True) A A':=h.up fun _ _=>trivial
theorem zU{K:Int}(w:World)(ρ:Nat→Nat)(P:Nat)(A:Adr)(f:fZ)(J:List aR)(t H:Nat)(Pt:List Nat)(b h:Nat)(lo hi:OB)(key:ByteArray)(q:Nat)(hSt:St w ρ P A f J)(hW:Wk f t H)(hp:aN f t H Pt b (h+1) lo hi)(hlo:loR lo key)(h5:sz f.nodes b<5)(hφ:A.φ b=some q)(hz:Sz K f)(hK1:1≤K)(hK:K≤700000)(hJl:J.length≤600000)(htc:Tch b J):
  Calls Tryz.prog 118 #[.pointer (some ⟨P,0,none⟩),.pointer (some ⟨q,0,none⟩),.string key] w (DnP w ρ P A f J b key K):=by
 obtain⟨es,hes,hnr,hne⟩:=hp.inner hW;have h0:0<es.length:=List.length_pos_iff.2 hne;have hz5:es.length<5:=by unfold sz at h5;rw[hes]at h5;exact h5
 obtain⟨w1,p1,-⟩:=hW.lowKey hp hes key hlo;have hbl:b<f.cur.length:=hz.lt b _ hes;obtain⟨q',junk,e1,hρq,hρa,hN⟩:=hSt.getNode hes;rw[hφ]at e1;cases e1;obtain⟨g,hg⟩:=hN.arrOf h0;rw[hg]at hN;obtain⟨f1,f2⟩:=hN.first rfl rfl h0;simp only at f1 f2;obtain⟨es1,HE1⟩:=exH (lowK es key);have hl1:es1.length=es.length:=by rw[HE1.out];exact cH es key
 have hne1:es1≠[]:=fun e=>hne (List.length_eq_zero_iff.1 (by rw[←hl1,e];rfl));rw[←HE1.out]at w1 p1;have hes1:(setN f b (2,es1)).nodes b=some (2,es1):=aD _ _ _;obtain⟨_,q1,hnr1,_⟩:=p1.inner w1;rw[hes1]at q1;cases q1;have hi1:bK es1 key<es1.length:=eE key hne1;have hz1:Sz K (setN f b (2,es1)):=hz.setN hbl (by simp only;omega);have HD:Hid (stepDown f b key=match shadow (setN f b (2,es1)) (.ent b (bK es1 key))with
  | none=>none
  | some (g,c)=>
   if(Fo.look g c).2.length=5 then
    if aF g=0 then none else
     some (splitF g b (Fo.look g b).2 (bK es1 key) c (Fo.look g c).1 (Fo.look g c).2 3 (aF g) (ky (Fo.look g c).2 3),if kl key (ky (Fo.look g c).2 3)=true then c else aF g)
   else some (g,c)):=by
  show stepDown f b key=_
  unfold stepDown;rw[aE hes,HE1.out];rfl
 have hbd:=iT;have hbs:=qW;have HL:=aA hl1;have hfz0:=(hN.arr g rfl).1.frozen 0;have hi1':((bK es1 key:Nat):Int) <(es1.length:Int):=by omega
 have h0':0 <(es.length:Int):=by omega
 have hsm:es.length+junk.length≤maxLen:=hN.small;go_enter Tryz.func118,Tryz.ntmps118;by_cases hkl:kl key (ky es 0)=true
 case' pos=>
  have hlt:Op.bytesLess key.toList (ky es 0).toList=true:=hkl;have hk1:es1=es.set 0 (key,(es.getD 0 e0).2):=by rw[HE1.out];unfold lowK;rw[if_pos hkl]
  have hN1:aM (w.setCell ⟨g,0,none⟩ (.string key)) q (2,es1) (some g) junk:=by
   have:=hN.setc (i:=0) (j:=0) (v:=.string key) (e':=(key,(es.getD 0 e0).2)) h0 (by omega) (by simp[aJ])
   rw[hk1];simpa using this
  obtain⟨hS1,hM1⟩:=hSt.nodeSame (w':=w.setCell ⟨g,0,none⟩ (.string key)) hes hφ (Frm.set w (p:=⟨g,0,none⟩) (.inr hg) _) (by rw[hg];exact hN1);clear hkl hk1 hl1;go_wp2_with fail;refine(gW q (2,es1) (some g) junk key _ hN1 hnr1.srt (by have:=HL.out;simp only;omega)).mono ?_;rintro e w2 ⟨rfl,hB2⟩
 case' neg=>
  have hlt:Op.bytesLess key.toList (ky es 0).toList=false:=Bool.eq_false_iff.2 (show ¬Op.bytesLess key.toList (ky es 0).toList=true from hkl);have hk1:es1=es:=by rw[HE1.out];unfold lowK;rw[if_neg hkl]
  have hN1:aM w q (2,es1) (some g) junk:=by rw[hk1];exact hN
  have hS1:St w ρ P A (setN f b (2,es1)) J:=by rw[hk1,aDV hes];exact hSt
  have hM1:Mv (fun _=>False) w ρ w ρ:=Mv.refl _ _ _;clear hkl hk1 hl1;go_wp2_with fail;refine(gW q (2,es1) (some g) junk key _ hN1 hnr1.srt (by have:=HL.out;simp only;omega)).mono ?_;rintro e w2 ⟨rfl,hB2⟩
 all_goals (
  have hS2:=hS1.below hB2;have hM2:Mv (fun _=>False) w ρ w2 ρ:=hM1.trans (Mv.of_below hB2) (fun _ _ e=>e);have hN2:=hN1.below hB2;clear hS1 hM1 hN1 hB2;have c2:w2.cell? ⟨q,1,none⟩=some (.slice (some ⟨g,0,none⟩) es1.length (es1.length+junk.length)):=by rw[hN2.box.cell];rfl
  have hJ1:JS 0 f J (setN f b (2,es1)) J:=JS.setN _ htc;clear f1 f2 hN;generalize hI:bK es1 key=i at *;have hLok:dQ (setN f b (2,es1)) (.ent b i):=⟨hbl,es1,hes1,hi1⟩;have hLat:gR A (.ent b i) ⟨g,i*3+2,none⟩:=⟨g,hg,rfl⟩;go_wp2_with fail;refine(iE w2 ρ P A (setN f b (2,es1)) J (.ent b i) ⟨g,i*3+2,none⟩ hS2 w1.ic hz1 hK1 (by omega) (by omega) hLok hLat (fun b' i' e=>by cases e;exact htc)).mono ?_;intro e w3 hT;cases hsh:shadow (setN f b (2,es1)) (.ent b i)with
  | none=>
   obtain⟨rfl,ρ3,A3,g3,J3,a1,a2,a3⟩:=hT.no hsh;have hno:stepDown f b key=none:=by rw[HD.out,hsh]
   exact⟨rfl,fun _=>⟨rfl,ρ3,A3,g3,J3,a1,hM2.trans a2 (fun _ _ e=>e),(hJ1.trans a3).up (by omega)⟩,fun g c hgc=>by rw[hno]at hgc;cases hgc⟩
  | some gc=>
   obtain⟨g1,c⟩:=gc;obtain⟨ρ3,A3,J3,q3,rfl,hφ3,hDn,hTc,hz3⟩:=hT.yes g1 c hsh;obtain⟨w2',p2,p3,⟨es2,m1,m2,m3,m4⟩,m5,m6,m7,m8,m9⟩:=w1.shadow_ent p1 hes1 hi1 hsh;obtain⟨⟨kc,ces⟩,hd⟩:=w2'.ic.live (x:=c) (by rw[m6];omega);have hcl:ces.length≤5:=by
    obtain⟨d',d1,_,d2,_⟩:=((p3.ok w2'.ok).1).sz_pos;rw[hd]at d1;cases d1;exact d2
   have hbc:b≠c:=fun e=>by
    have hk:c∈kids (2,es2):=by rw[←m4];exact aO (by rw[m2];exact hi1)
    rw[←e]at hk;exact w2'.ic.not_self m1 hk
   obtain⟨q3',junk3,e1,hρ3,hρa3,hN3⟩:=hDn.st.getNode hd;rw[hφ3]at e1;cases e1;have HD2:Hid (stepDown f b key=if ces.length=5 then if aF g1=0 then none else some (splitF g1 b es2 i c kc ces 3 (aF g1) (ky ces 3),if kl key (ky ces 3)=true then c else aF g1)else some (g1,c)):=by
    have:=HD.out
    rw[hsh]at this;simp only[aE hd,aE m1]at this;exact this
   clear HD;have hDn0:Dn 12 (fun _=>True) w ρ P A f J w3 ρ3 A3 g1 J3:=⟨hDn.st,hM2.trans hDn.mv (fun _ _ e=>e),(hJ1.trans hDn.js).up (by omega),hDn.ad.top⟩;by_cases hf5:ces.length=5
   ·have hbA:¬(b=c∨b=bJ (setN f b (2,es1)) (.ent b i)):=fun e=>by
     rcases e with e | e
     ·exact hbc e
     ·have hk:bJ (setN f b (2,es1)) (.ent b i)∈kids (2,es1):=by simp only[bJ,aE hes1];exact gM hi1
      rw[←e]at hk;exact w1.ic.not_self hes1 hk
    have hφb:A3.φ b=some q:=by rw[hDn.ad.φ b hbA];exact hφ
    have hαb:A3.α b=some g:=by rw[hDn.ad.α b hbA];exact hg
    have HM:=aA (aI m2 (aI m4 hcl));obtain⟨gc,hgc⟩:=hN3.arrOf (by simp only;omega);rw[hgc]at hN3;have hdf:decide (ces.length=5)=true:=by simpa using hf5
    have H5:=aA hf5;clear hf5 m2 m4 hcl hT;go_wp2_with fail;refine(oJ q3 (kc,ces) _ junk3 _ hN3).mono ?_;rintro e w4 ⟨rfl,hw4⟩;rw[hw4];clear hw4 w4;go_wp2_with fail;refine(nI q3 gc kc ces junk3 _ hN3 (by have:=H5.out;omega) (by have:=H5.out;omega)).mono ?_;rintro e w4 ⟨q1,a1,j1,junk4,rfl,k1,k2,k3,k4,kF⟩;rw[show ces.length-2=3 by have:=H5.out;omega]at k3 k4;have kF':Frm (fun x=>x=q3∨A3.α c=some x) w3 w4:=kF.wide fun x _ e=>by rcases e with e | e;exact .inl e;right;rw[hgc,e]
    obtain⟨hS4,hM4⟩:=hDn.st.nodeSame hd hφ3 kF' (by rw[hgc];exact k4);have hρ0:∀x,w3.heap.size≤x→ρ3 x=0:=fun x hx=>Nat.eq_zero_of_not_pos fun q=>by
     obtain⟨_,_,_,hR2,_⟩:=id hDn.st;exact absurd (hR2.own x (by omega)) (by omega)
    have hcl3:c<g1.cur.length:=hz3.lt c _ hd;have hz4:Sz (K+10) (setN g1 c (kc,ces.take 3)):=hz3.setN hcl3 (by simp;omega);have hJ4:JS 0 g1 J3 (setN g1 c (kc,ces.take 3)) J3:=JS.setN _ hTc;obtain⟨ga,hga⟩:=k3.arrOf (by have:=H5.out;simp;omega);subst hga;have hga:w3.heap.size≤ga:=k2 ga rfl;have hb4:(setN g1 c (kc,ces.take 3)).nodes b=some (2,es2):=(aC _ _ hbc).trans m1;obtain⟨q',junk5,e1,hρb,hρg,hN5⟩:=hS4.getNode hb4;rw[hφb]at e1;cases e1;rw[hαb]at hN5;have hρg':ρ3 g=cC b:=hρg g hαb;obtain⟨c1,c2'⟩:=k3.first rfl (n:=2) (by have:=H5.out;simp;omega) (by omega);have ek1:ky (ces.drop 3) 0=ky ces 3:=by unfold ky;simp[gD]
    rw[ek1]at c2';have hq4:w4.cell? ⟨q,1,none⟩=some (.slice (some ⟨g,0,none⟩) es2.length (es2.length+junk5.length)):=by rw[hN5.box.cell];rfl
    obtain⟨i1,HI1⟩:=exH (i+1);have hwr:IntKind.i64.wrap ((i:Int)+1)=(i1:Int):=by
     have:=HI1.out
     rw[IntWalk.i64_in _ ⟨by omega,by have:=HL.out;omega⟩];omega
    obtain⟨y1,HY1⟩:=exH (ky ces 3);rw[←HY1.out]at c2' HD2;have HC:=aA (aI hlt (aI m5 (aI m6 m7)));clear hlt ek1 m5 m6 m7 hN3 k4 kF kF' hdf c2;go_wp2;have hqd:w4.drew.cell? ⟨q,1,none⟩=some (.slice (some ⟨g,0,none⟩) es2.length (es2.length+junk5.length)):=hq4;have hq0:=hqd;clear hqd c1 c2';refine aZ (fun W=>W.cell? ⟨q,1,none⟩=some (.slice (some ⟨g,0,none⟩) es2.length (es2.length+junk5.length))) 16 (by kernel_rfl) ?_;refine tJ 0 52 (.pointer (some ⟨q,0,none⟩)) rfl hq0 ?_ (fun w' hw=>by obtain m1:=hw;go_simp;try rfl);simp only[Act.put,sB,sZ,sS];refine tJ 1 53 (.pointer (some ⟨q,0,none⟩)) rfl hq0 ?_ (fun w' hw=>by obtain m1:=hw;go_simp;try rfl);simp only[Act.put,sB,sZ,sS];refine tJ 2 54 (.pointer (some ⟨q,0,none⟩)) rfl hq0 ?_ (fun w' hw=>by obtain m1:=hw;go_simp;try rfl);simp only[Act.put,sB,sZ,sS];refine tJ 3 55 (.pointer (some ⟨q,1,none⟩)) rfl hq0 ?_ (fun w' hw=>by obtain m1:=hw;go_simp;try rfl);simp only[Act.put,sB,sZ,sS];refine tJ 4 56 (.slice (some ⟨g,0,none⟩) es2.length (es2.length+junk5.length)) rfl hq0 ?_ (fun w' hw=>by obtain m1:=hw;go_simp;try rfl);simp only[Act.put,sB,sZ,sS];refine tJ 5 57 (.int .i64 i) rfl hq0 ?_ (fun w' hw=>by obtain m1:=hw;go_simp;try rfl);simp only[Act.put,sB,sZ,sS];refine tJ 6 58 (.int .i64 i1) rfl hq0 ?_ (fun w' hw=>by obtain m1:=hw;go_simp;try rfl);simp only[Act.put,sB,sZ,sS];refine tJ 7 59 (.string y1) rfl hq0 ?_ (fun w' hw=>by obtain m1:=hw;go_simp;try rfl);simp only[Act.put,sB,sZ,sS];refine tJ 8 60 (.pointer (some ⟨P,0,none⟩)) rfl hq0 ?_ (fun w' hw=>by obtain m1:=hw;go_simp;try rfl);simp only[Act.put,sB,sZ,sS];refine tJ 9 61 (.pointer (some ⟨q1,0,none⟩)) rfl hq0 ?_ (fun w' hw=>by obtain m1:=hw;go_simp;try rfl);simp only[Act.put,sB,sZ,sS];have hBd:Bl w4 w4.drew:=(bQ w4.heap.size w4).drew;have hS4d:=hS4.below hBd;refine oE 10 rfl fun K2 hK2=>?_;go_simp;refine(nH w4.drew ρ3 P A3 (setN g1 c (kc,ces.take 3)) J3 q1 (kc,ces.drop 3) (some ga) j1 hS4d hz4 (by omega) (by have:=hDn.js.len;omega) (k3.below hBd) (hρ0 q1 k1) (fun x e=>by cases e;exact hρ0 ga hga)).mono ?_;intro e w5 hT;have hlf:aF (setN g1 c (kc,ces.take 3))=aF g1:=rfl;by_cases hl:aF g1=0
    ·obtain⟨rfl,hB5⟩:=hT.no hl
     have hno:stepDown f b key=none:=by rw[HD2.out,if_pos H5.out,if_pos hl]
     exact⟨rfl,fun _=>⟨rfl,ρ3,A3,_,J3,hS4d.below hB5,((hDn0.mv.trans hM4 (fun _ _ e=>e)).trans (Mv.of_below hBd) (fun _ _ e=>e)).trans (Mv.of_below hB5) (fun _ _ e=>e),(hDn0.js.trans hJ4).up (by omega)⟩,fun g c hgc=>by rw[hno]at hgc;cases hgc⟩
    ·obtain⟨he,ρ5,hS5,hM5,hF5⟩:=hT.yes hl
     rw[hlf]at he hS5;subst he;have hyes:stepDown f b key=some (splitF g1 b es2 i c kc ces 3 (aF g1) y1,if kl key y1=true then c else aF g1):=by rw[HD2.out,if_pos H5.out,if_neg hl]
     obtain⟨l1,l2,l3,l4⟩:=aQ hl;have hzd:g1.nodes (aF g1)=none:=(w2'.ic.dom.dead _).2 l3;generalize aF g1=z at *;have hbz:b≠z:=fun e=>by rw[e,hzd]at m1;cases m1
     have hcz:c≠z:=fun e=>by rw[e,hzd]at hd;cases hd
     have hJ5:JS 1 g1 J3 (takeAt (setN g1 c (kc,ces.take 3)) z (kc,ces.drop 3)) (J3++[(z,cu (setN g1 c (kc,ces.take 3)) z,(setN g1 c (kc,ces.take 3)).nodes z)]):=(hJ4.trans (JS.save l2)).trans (JS.takeAt _ Tch.saved);have hTz:Tch z (J3++[(z,cu (setN g1 c (kc,ces.take 3)) z,(setN g1 c (kc,ces.take 3)).nodes z)]):=Tch.saved;generalize J3++[(z,cu (setN g1 c (kc,ces.take 3)) z,(setN g1 c (kc,ces.take 3)).nodes z)]=J5 at *;have hM5':Mv (fun _=>False) w ρ w5 ρ5:=((((hDn0.mv.trans hM4 (fun _ _ e=>e)).trans (Mv.of_below hBd) (fun _ _ e=>e)).up (Y:=fun x=>x=q1∨some ga=some x) (fun _ _ e=>e.elim)).trans hM5 (fun _ _ e=>e)).up fun x hx e=>by
      have:=hDn0.mv.frm.size
      rcases e with e | e
      ·omega
      ·cases e;omega
     have hne:∀x,(x=cE b∨x=cC b)→¬(x=1∨x=6∨x=3∨x=4):=fun x e=>by unfold cE cC at e;omega
     have hN5':aM w5 q (2,es2) (some g) junk5:=(hN5.below hBd).frm hF5 (by rw[hρb];exact hne _ (.inl rfl)) (fun x e=>by cases e;rw[hρg'];exact hne _ (.inr rfl));have hq5:w5.cell? ⟨q,1,none⟩=some (.slice (some ⟨g,0,none⟩) es2.length (es2.length+junk5.length)):=by rw[hN5'.box.cell];rfl
     refine hK2 _ _ (fun _=>hq5) ?_;clear hK2 K2 hq0 hT;refine oE 11 rfl fun K2 hK2=>?_;go_simp;refine hK2 _ _ (fun _=>hq5) ?_;clear hK2 K2;refine oE 12 rfl fun K2 hK2=>?_;go_simp;obtain⟨G6,HG6⟩:=exH (w5.heap.size);obtain⟨W6,HW6⟩:=exH (w5.alloc (.cells #[.string y1,.string ⟨#[]⟩,.int .i64 z] 110));rw[←HW6.out,←HG6.out];have hN6:IsC W6 G6 (bX [(y1,.empty,(z:Int))]) 110:=by rw[HW6.out,HG6.out];exact IsC.new _ _ _
     have hB6:Bl w5 W6:=by rw[HW6.out];exact(bQ w5.heap.size w5).alloc (nR _) _
     have hG6:g≠G6:=by rw[HG6.out];exact Nat.ne_of_lt (hN5'.arr g rfl).1.lt
     have hNb6:=hN5'.below hB6;have hq6:W6.cell? ⟨q,1,none⟩=some (.slice (some ⟨g,0,none⟩) es2.length (es2.length+junk5.length)):=by rw[hNb6.box.cell];rfl
     refine hK2 _ _ (fun _=>hq6) ?_;clear hK2 K2 hq5;have hS6:=hS5.below hB6;have hi2:i<es2.length:=by rw[HM.out.1];exact hi1
     have hb6:(takeAt (setN g1 c (kc,ces.take 3)) z (kc,ces.drop 3)).nodes b=some (2,es2):=(aC _ _ hbz).trans hb4;have hφ6:(cT A3 z q1 (some ga)).φ b=some q:=(aC _ _ hbz).trans hφb;have hα6:(cT A3 z q1 (some ga)).α b=some g:=(aC _ _ hbz).trans hαb;refine oE 13 rfl fun K2 hK2=>?_;go_simp;refine(jT (some g) es2 junk5 [(y1,.empty,(z:Int))] (some ⟨G6,0,none⟩) 1 i1 W6 (fun x e=>by cases e;exact(hNb6.arr g rfl).1) (fun e=>by cases e) (.inr ⟨G6,0,1,[(y1,.empty,(z:Int))],rfl,hN6,by simp,by simp⟩) (fun gv o n c e e'=>by cases e;cases e';exact hG6 rfl) (by rw[HI1.out];omega) (by simp) (by have:=HM.out.1;have:=HL.out;simp;omega) hNb6.small).mono ?_;rintro e w7 ⟨u,rfl,hIns⟩;obtain⟨ua,un,uc,rfl⟩:∃ua un uc,u=.slice ua un uc:=by obtain⟨⟨a',j',e,_⟩,_⟩:=hIns;exact⟨_,_,_,e⟩
     have hq7:w7.cell? ⟨q,1,none⟩=some (.slice (some ⟨g,0,none⟩) es2.length (es2.length+junk5.length)):=(dA (hIns.frm.block q hNb6.box.lt (fun e=>(hNb6.arr q e).2 rfl)) 1).trans hq6;obtain⟨a',-,hS8,hM8,-,hfz8⟩:=hS6.ins (w1:=w7) (u:=.slice ua un uc) hb6 hφ6 (by rw[hα6];exact hIns);have hls:es2.take i1++[(y1,.empty,(z:Int))]++es2.drop i1=insE es2 (i+1) (y1,.empty,(z:Int)):=by rw[HI1.out];simp[insE]
     rw[hls]at hS8;have hsp:setN (takeAt (setN g1 c (kc,ces.take 3)) z (kc,ces.drop 3)) b (2,insE es2 (i+1) (y1,.empty,(z:Int)))=splitF g1 b es2 i c kc ces 3 z y1:=rfl;rw[hsp]at hS8;have hbl5:b <(takeAt (setN g1 c (kc,ces.take 3)) z (kc,ces.drop 3)).cur.length:=by
      have:b<g1.cur.length:=hz3.lt b _ m1
      simpa [takeAt,setN] using this
     have hz8:Sz (K+10) (splitF g1 b es2 i c kc ces 3 z y1):=(hz4.takeAt (by omega) l2 (by have:=H5.out;simp;omega)).setN hbl5 (by have:=HM.out.1;have:=HL.out;simp only[insE,lP,List.length_take,List.length_cons,List.length_drop];omega);have hJ8:JS 13 f J (splitF g1 b es2 i c kc ces 3 z y1) J5:=((hDn0.js.trans hJ5).trans (JS.setN _ (hJ5.tch b (hDn.js.tch b htc)))).up (by omega);have hTc5:Tch c J5:=hJ5.tch c hTc;have hφc:(dL (cT A3 z q1 (some ga)) b a').φ c=some q3:=(aC _ _ hcz).trans hφ3;have hφz:(dL (cT A3 z q1 (some ga)) b a').φ z=some q1:=aD _ _ _;have hAd:AdS (fun _=>True) A (dL (cT A3 z q1 (some ga)) b a'):=(hDn0.ad.trans ((AdS.put A3 z q1 (some ga)).trans (AdS.arr _ b a'))).up fun _ _=>trivial;have HF:=aA (show Dn 13 (fun _=>True) w ρ P A f J (w7.setCell ⟨q,1,none⟩ (.slice ua un uc)) (jB ρ5 a' b) (dL (cT A3 z q1 (some ga)) b a') (splitF g1 b es2 i c kc ces 3 z y1) J5 from⟨hS8,(hM5'.trans (Mv.of_below hB6) (fun _ _ e=>e)).trans hM8 (fun _ _ e=>e),hJ8,hAd⟩);have HY:=aA (aI hyes (aI hTc5 (aI hTz hz8)));refine hK2 _ _ (fun _=>hq7) ?_;clear hK2 K2 hq6 hyes hTc5 hTz hz8 hAd hJ8 hS8 hM8 hsp hls hS6 hS5 hM5' hM5 hF5 hS4d hS4 hM4 hDn0 hDn hJ5 hJ4 HD2 hIns hNb6 hN5 hN5' hN6 hz4 hz3;refine oE 14 rfl fun K2 hK2=>?_;go_simp;refine hK2 _ _ (fun _=>hq7) ?_;clear hK2 K2;refine oE 15 rfl fun K2 hK2=>?_;go_simp;refine hK2 _ _ (fun _=>hq7) ?_;clear hK2 K2;refine oE 16 rfl fun K2 hK2=>?_;go_simp;refine hK2 _ _ (fun q=>absurd rfl q) ?_;clear hK2 K2;refine aV (by kernel_rfl) ?_ _;by_cases hk:kl key y1=true
     ·have hlt3:Op.bytesLess key.toList y1.toList=true:=hk
      have HK:=aA hk;clear hk;go_wp2;go_ret;obtain⟨hyes,hTc5,hTz,hz8⟩:=HY.out;rw[if_pos HK.out]at hyes;refine⟨fun q=>(by rw[hyes]at q;cases q),fun g' c' hgc=>?_⟩;rw[hyes]at hgc;cases hgc;exact⟨_,_,J5,q3,rfl,hφc,HF.out,hTc5,hz8⟩
     ·have hlt3:Op.bytesLess key.toList y1.toList=false:=Bool.eq_false_iff.2 (show ¬Op.bytesLess key.toList y1.toList=true from hk)
      have HK:=aA hk;clear hk;go_wp2;go_ret;obtain⟨hyes,hTc5,hTz,hz8⟩:=HY.out;rw[if_neg HK.out]at hyes;refine⟨fun q=>(by rw[hyes]at q;cases q),fun g' c' hgc=>?_⟩;rw[hyes]at hgc;cases hgc;exact⟨_,_,J5,q1,rfl,hφz,HF.out,hTz,hz8⟩
   ·have hdf:decide (ces.length=5)=false:=by simpa using hf5
    have H5:=aA hf5;clear hf5 hT;go_wp2_with fail;refine(oJ q3 (kc,ces) _ junk3 _ hN3).mono ?_;rintro e w4 ⟨rfl,hw4⟩;rw[hw4];clear hw4 w4;go_wp2;go_ret;refine⟨fun q=>(by rw[HD2.out,if_neg H5.out]at q;cases q),fun g' c' hgc=>?_⟩;rw[HD2.out,if_neg H5.out]at hgc;cases hgc;exact⟨ρ3,A3,J3,q3,rfl,hφ3,⟨hDn0.st,hDn0.mv,hDn0.js.up (by omega),hDn0.ad⟩,hTc,hz3⟩)
