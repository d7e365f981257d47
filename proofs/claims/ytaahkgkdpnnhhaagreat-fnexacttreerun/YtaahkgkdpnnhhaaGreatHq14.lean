import Derived.Test.YtaahkgkdpnnhhaaGreatHq13
set_option maxHeartbeats 9999999
set_option maxRecDepth 99999
set_option linter.all false
namespace Go.Proofs.YtaahkgkdpnnhhaaGreat
open Go.RowKit Fo
theorem aGS{K:Int}(w:World)(ρ:Nat→Nat)(P:Nat)(A:Adr)(f:fZ)(J:List aR)(b:Nat)(h:St w ρ P A f J)(hz:Sz K f)(hJl:J.length≤900000)(hb:b<f.cur.length):
  Calls Tryz.prog 123 #[.pointer (some ⟨P,0,none⟩),.int .i64 b] w fun e w'=>e=.returned (.tuple #[])∧∃ρ',St w' ρ' P (gO A b) (freeB f b) (J++[(b,cu f b,f.nodes b)])∧Mv (fun _=>False) w ρ w' ρ'∧Frm (fun k=>ρ k=1∨ρ k=6∨ρ k=3∨ρ k=4) w w':=by
 obtain⟨ja,jp,jj,hR,hJ⟩:=id h;go_enter Tryz.func123,Tryz.ntmps123;go_wp2_with fail;refine(lO _ ρ P A f J b h hz hb hJl).mono ?_;rintro e w2 ⟨rfl,ρ2,hS2,hM2,-,hfr⟩;obtain⟨ja2,jp2,jj2,hR2,hJ2⟩:=id hS2;obtain⟨n3,n4,n5,n7⟩:=hR2.cells;have hbi:(b:Int) <(f.cur.length:Int):=by omega
 have hcc:=hR2.count hb;have hfz:w2.frozen? ⟨A.c,b,none⟩=false:=hR2.hc.frozen b;obtain⟨hS4,hV4⟩:=hS2.setC (b:=b) hb 0;obtain⟨ja3,jp3,jj3,hR3,hJ3⟩:=id hS4;obtain⟨w5,hr5,hM5,hF5⟩:=hR3.hm.del b (by have:=hz.n512;omega) 0;have o3:(w2.setCell ⟨A.c,b,none⟩ (.int .i64 0)).cell? ⟨P,3,none⟩=some (.map (some A.m)):=hR3.cells.m3;obtain⟨hS5,hV5⟩:=hS4.del (b:=b) hM5 hF5;have hFF:Frm (fun k=>ρ k=1∨ρ k=6∨ρ k=3∨ρ k=4) w w5:=by
  refine((hfr.wide fun x _ e=>by rcases e with e | e;exact .inl e;exact .inr (.inl e)).trans (Frm.set w2 (p:=⟨A.c,b,none⟩) (.inr (.inr (.inr hR.rc))) _)).next hF5 (fun x _ e=>.inr (.inr (.inl (by rw[e];exact hR.rm))))
 have HS5:=aA hS5;have HV5:=aA hV5;have HV4:=aA hV4;have HFF:=aA hFF;clear hS5 hV5 hV4 hS4 hFF;go_wp2;go_end0;exact⟨rfl,ρ2,HS5.out,(hM2.trans HV4.out (fun _ _ e=>e)).trans HV5.out (fun _ _ e=>e),HFF.out⟩
structure SdP(w:World)(ρ:Nat→Nat)(P:Nat)(A:Adr)(f:fZ)(J:List aR)(b:Nat)(key:ByteArray)(K:Int)(e:Ending)(w':World):Prop where
 no:stepDel f b key=none→Pk 24 w ρ P f J e w'
 yes:∀g c,stepDel f b key=some (g,c)→∃ρ' A' J' q,e=.returned (.pointer (some ⟨q,0,none⟩))∧A'.φ c=some q∧A'.φ b=A.φ b∧Dn 24 (fun _=>True) w ρ P A f J w' ρ' A' g J'∧Tch c J'∧Sz (K+20) g
theorem aBU{K:Int}(w:World)(ρ:Nat→Nat)(P:Nat)(A:Adr)(f:fZ)(J:List aR)(t H:Nat)(Pt:List Nat)(b h:Nat)(lo hi:OB)(key:ByteArray)(q:Nat)(hSt:St w ρ P A f J)(hW:Wk f t H)(hp:aN f t H Pt b (h+1) lo hi)(h2:2≤sz f.nodes b)(hφ:A.φ b=some q)(hz:Sz K f)(hK1:1≤K)(hK:K≤600000)(hJl:J.length≤500000)(htc:Tch b J):
  Calls Tryz.prog 122 #[.pointer (some ⟨P,0,none⟩),.pointer (some ⟨q,0,none⟩),.string key] w (SdP w ρ P A f J b key K):=by
 obtain⟨es,hes,hnr,hne⟩:=hp.inner hW;have h2':2≤es.length:=by unfold sz at h2;rw[hes]at h2;exact h2
 have h10:=hz.ent b _ hes;simp only at h10;have hbl:b<f.cur.length:=hz.lt b _ hes;obtain⟨q',junk,e1,hρq,hρa,hN⟩:=hSt.getNode hes;rw[hφ]at e1;cases e1;obtain⟨g,hg⟩:=hN.arrOf (by simp only;omega);rw[hg]at hN;have hi1:bK es key<es.length:=eE key hne;have hi1':((bK es key:Nat):Int) <(es.length:Int):=by omega
 have HD:Hid (stepDel f b key=match shadow f (.ent b (bK es key))with
  | none=>none
  | some (g,c)=>
   if 2 <(Fo.look g c).2.length then some (g,c)else
   if bK es key+1 <(Fo.look g b).2.length then(fillNext g b (bK es key) c).map fun k=>(k,c)
   else(fillLast g b (bK es key) c).map fun k=>(k,c)):=by
  show stepDel f b key=_
  unfold stepDel;rw[aE hes];rfl
 have hsm:es.length+junk.length≤maxLen:=hN.small;go_enter Tryz.func122,Tryz.ntmps122;go_wp2_with fail;refine(gW q (2,es) (some g) junk key _ hN hnr.srt h10).mono ?_;rintro e w2 ⟨rfl,hB2⟩;have hS2:=hSt.below hB2;have hN2:=hN.below hB2;have hM2:Mv (fun _=>False) w ρ w2 ρ:=Mv.of_below hB2;have c2:w2.cell? ⟨q,1,none⟩=some (.slice (some ⟨g,0,none⟩) es.length (es.length+junk.length)):=by rw[hN2.box.cell];rfl
 clear hN hB2;simp only at *;generalize hI:bK es key=i at *;have hLok:dQ f (.ent b i):=⟨hbl,es,hes,hi1⟩;have hLat:gR A (.ent b i) ⟨g,i*3+2,none⟩:=⟨g,hg,rfl⟩;go_wp2_with fail;refine(iE w2 ρ P A f J (.ent b i) ⟨g,i*3+2,none⟩ hS2 hW.ic hz hK1 (by omega) (by omega) hLok hLat (fun b' i' e=>by cases e;exact htc)).mono ?_;intro e w3 hT;cases hsh:shadow f (.ent b i)with
 | none=>
  obtain⟨rfl,ρ3,A3,g3,J3,a1,a2,a3⟩:=hT.no hsh;have hno:stepDel f b key=none:=by rw[HD.out,hsh]
  exact⟨rfl,fun _=>⟨rfl,ρ3,A3,g3,J3,a1,hM2.trans a2 (fun _ _ e=>e),a3.up (by omega)⟩,fun g c hgc=>by rw[hno]at hgc;cases hgc⟩
 | some gc=>
  obtain⟨g1,c⟩:=gc;obtain⟨ρ3,A3,J3,q3,rfl,hφ3,hDn,hTc,hz3⟩:=hT.yes g1 c hsh;obtain⟨w2',p2,p3,⟨es2,m1,m2,m3,m4⟩,m5,m6,m7,m8,m9⟩:=hW.shadow_ent hp hes hi1 hsh;obtain⟨⟨kc,ces⟩,hd⟩:=w2'.ic.live (x:=c) (by rw[m6];omega);have hcz:2≤ces.length:=by
   have:=(p3.ok w2'.ok).2 (by simp);unfold sz at this;rw[hd]at this;exact this
  have hbc:b≠c:=fun e=>by
   have hk:c∈kids (2,es2):=by rw[←m4];exact aO (by rw[m2];exact hi1)
   rw[←e]at hk;exact w2'.ic.not_self m1 hk
  have hbA:¬(b=c∨b=bJ f (.ent b i)):=fun e=>by
   rcases e with e | e
   ·exact hbc e
   ·have hk:bJ f (.ent b i)∈kids (2,es):=by simp only[bJ,aE hes];exact gM hi1
    rw[←e]at hk;exact hW.ic.not_self hes hk
  have hφb:A3.φ b=some q:=by rw[hDn.ad.φ b hbA];exact hφ
  obtain⟨q3',junk3,e1,hρ3,hρa3,hN3⟩:=hDn.st.getNode hd;rw[hφ3]at e1;cases e1;obtain⟨qb',junkb,e1,-,-,hNb⟩:=hDn.st.getNode m1;rw[hφb]at e1;cases e1;obtain⟨ab,hab⟩:∃ab,ab=A3.α b:=⟨_,rfl⟩;rw[←hab]at hNb;clear hab;have HD2:Hid (stepDel f b key=if 2<ces.length then some (g1,c)else if i+1<es2.length then(fillNext g1 b i c).map fun k=>(k,c)else(fillLast g1 b i c).map fun k=>(k,c)):=by
   have:=HD.out
   rw[hsh]at this;simp only[aE hd,aE m1]at this;exact this
  clear HD;have hDn0:Dn 12 (fun _=>True) w ρ P A f J w3 ρ3 A3 g1 J3:=⟨hDn.st,hM2.trans hDn.mv (fun _ _ e=>e),hDn.js.up (by omega),hDn.ad.top⟩;have hTb:Tch b J3:=hDn.js.tch b htc;have hJ3:J3.length≤500012:=by have:=hDn.js.len;omega
  clear hT hDn;by_cases hsp:2<ces.length
  ·have hdf:decide (2<ces.length)=true:=by simpa using hsp
   have HSP:=aA hsp;clear hsp;go_wp2_with fail;refine(fP q3 (kc,ces) _ junk3 _ hN3).mono ?_;rintro e w4 ⟨rfl,hw4⟩;rw[hw4];clear hw4 w4;go_wp2;go_ret;refine⟨fun q=>(by rw[HD2.out,if_pos HSP.out]at q;cases q),fun g' c' hgc=>?_⟩;rw[HD2.out,if_pos HSP.out]at hgc;cases hgc;exact⟨ρ3,A3,J3,q3,rfl,hφ3,hφb.trans hφ.symm,⟨hDn0.st,hDn0.mv,hDn0.js.up (by omega),hDn0.ad⟩,hTc,hz3.up (by omega)⟩
  ·have hdf:decide (2<ces.length)=false:=by simpa using hsp
   have hc2:ces.length=2:=by omega
   have HSP:=aA (aI hsp hc2);clear hsp hc2;have c3:w3.cell? ⟨q,1,none⟩=some (.slice (adr ab) es2.length (es2.length+junkb.length)):=by rw[hNb.box.cell];rfl
   have hsmb:es2.length+junkb.length≤maxLen:=hNb.small;obtain⟨i1,HI1⟩:=exH (i+1);have hwr:IntKind.i64.wrap ((i:Int)+1)=(i1:Int):=by
    have:=HI1.out
    rw[IntWalk.i64_in _ ⟨by omega,by omega⟩];omega
   have hl5:es2.length≤9223372036854775807:=by rw[m2];omega
   have HM:=aA (aI m2 m4);have HB:=aA hcz;clear m2 m4 hcz;by_cases hlt:i1<es2.length
   ·have hlt':((i1:Nat):Int) <(es2.length:Int):=by omega
    go_wp2_with fail
    refine(fP q3 (kc,ces) _ junk3 _ hN3).mono ?_;rintro e w4 ⟨rfl,hw4⟩;rw[hw4];clear hw4 w4;go_wp2_with fail;refine(zR (K:=K+10) w3 ρ3 P A3 g1 J3 t H Pt b h lo hi es2 i c kc ces q q3 hDn0.st w2' p2 m1 (by have:=HI1.out;omega) HM.out.2.symm hd m6 HSP.out.2 hφb hφ3 hz3 (by omega) (by omega) (by omega) hTb hTc).mono ?_;intro e w5 hF;cases hfl:fillNext g1 b i c with
    | none=>
     obtain⟨rfl,ρ5,A5,g5,J5,a1,a2,a3⟩:=hF.no hfl;have hno:stepDel f b key=none:=by rw[HD2.out,if_neg HSP.out.1,if_pos (by have:=HI1.out;omega),hfl];rfl
     exact⟨rfl,fun _=>⟨rfl,ρ5,A5,g5,J5,a1,hDn0.mv.trans a2 (fun _ _ e=>e),(hDn0.js.trans a3).up (by omega)⟩,fun g c hgc=>by rw[hno]at hgc;cases hgc⟩
    | some g5=>
     obtain⟨rfl,ρ5,A5,J5,hD5,hb5,hc5,hz5⟩:=hF.yes g5 hfl;have hyes:stepDel f b key=some (g5,c):=by rw[HD2.out,if_neg HSP.out.1,if_pos (by have:=HI1.out;omega),hfl];rfl
     have HR:=aA (show Dn 24 (fun _=>True) w ρ P A f J w5 ρ5 A5 g5 J5∧Tch c J5∧Sz (K+20) g5 from⟨⟨hD5.st,hDn0.mv.trans hD5.mv (fun _ _ e=>e),(hDn0.js.trans hD5.js).up (by omega),(hDn0.ad.trans hD5.ad).up fun _ _=>trivial⟩,hD5.js.tch c hTc,hz5.up (by omega)⟩);have HY:=aA hyes;clear hyes hF hD5 hz5 hDn0;go_wp2;go_ret;obtain⟨hDf,hTf,hzf⟩:=HR.out;refine⟨fun q=>(by rw[HY.out]at q;cases q),fun g' c' hgc=>?_⟩;rw[HY.out]at hgc;cases hgc;exact⟨ρ5,A5,J5,q3,rfl,hc5.trans hφ3,(hb5.trans hφb).trans hφ.symm,hDf,hTf,hzf⟩
   ·have hlt':¬((i1:Nat):Int) <(es2.length:Int):=by omega
    go_wp2_with fail
    refine(fP q3 (kc,ces) _ junk3 _ hN3).mono ?_;rintro e w4 ⟨rfl,hw4⟩;rw[hw4];clear hw4 w4;go_wp2_with fail;refine(zP (K:=K+10) w3 ρ3 P A3 g1 J3 t H Pt b h lo hi es2 i c kc ces q q3 hDn0.st w2' p2 m1 (by have:=HI1.out;have:=HM.out.1;omega) (by have:=HM.out.1;omega) HM.out.2.symm hd m6 HSP.out.2 hφb hφ3 hz3 (by omega) (by omega) (by omega) hTb hTc).mono ?_;intro e w5 hF;cases hfl:fillLast g1 b i c with
    | none=>
     obtain⟨rfl,ρ5,A5,g5,J5,a1,a2,a3⟩:=hF.no hfl;have hno:stepDel f b key=none:=by rw[HD2.out,if_neg HSP.out.1,if_neg (by have:=HI1.out;omega),hfl];rfl
     exact⟨rfl,fun _=>⟨rfl,ρ5,A5,g5,J5,a1,hDn0.mv.trans a2 (fun _ _ e=>e),(hDn0.js.trans a3).up (by omega)⟩,fun g c hgc=>by rw[hno]at hgc;cases hgc⟩
    | some g5=>
     obtain⟨rfl,ρ5,A5,J5,hD5,hb5,hc5,hz5⟩:=hF.yes g5 hfl;have hyes:stepDel f b key=some (g5,c):=by rw[HD2.out,if_neg HSP.out.1,if_neg (by have:=HI1.out;omega),hfl];rfl
     have HR:=aA (show Dn 24 (fun _=>True) w ρ P A f J w5 ρ5 A5 g5 J5∧Tch c J5∧Sz (K+20) g5 from⟨⟨hD5.st,hDn0.mv.trans hD5.mv (fun _ _ e=>e),(hDn0.js.trans hD5.js).up (by omega),(hDn0.ad.trans hD5.ad).up fun _ _=>trivial⟩,hD5.js.tch c hTc,hz5.up (by omega)⟩);have HY:=aA hyes;clear hyes hF hD5 hz5 hDn0;go_wp2;go_ret;obtain⟨hDf,hTf,hzf⟩:=HR.out;refine⟨fun q=>(by rw[HY.out]at q;cases q),fun g' c' hgc=>?_⟩;rw[HY.out]at hgc;cases hgc;exact⟨ρ5,A5,J5,q3,rfl,hc5.trans hφ3,(hb5.trans hφb).trans hφ.symm,hDf,hTf,hzf⟩
structure RmP(k:Nat)(L:Int)(w:World)(ρ:Nat→Nat)(P:Nat)(A:Adr)(f:fZ)(J:List aR)(r:Option fZ)(e:Ending)(w':World):Prop where
 no:r=none→Pk k w ρ P f J e w'
 yes:∀g,r=some g→e=.returned (.tuple #[])∧∃ρ' A' J',Dn k (fun _=>True) w ρ P A f J w' ρ' A' g J'∧Sz L g
structure RmR(w:World)(ρ:Nat→Nat)(P:Nat)(A:Adr)(f:fZ)(J:List aR)(K:Int)(t H:Nat)(key:ByteArray)(r:Option fZ)(h:Nat)(v:Value)(W:World):Prop where
 le:h≤H
 ex:∃q b ρ' A' f' J' H' Pt lo hi,v=.pointer (some ⟨q,0,none⟩)∧A'.φ b=some q∧Dn (12+25*(H-h)) (fun _=>True) w ρ P A f J W ρ' A' f' J'∧Sz (K+10+20*((H-h:Nat):Int)) f'∧Wk f' t H'∧aN f' t H' Pt b h lo hi∧(Pt≠[]→3≤sz f'.nodes b)∧cD f' t H'∧Mem f'.nodes h b key∧Tch b J'∧delAt h f' t b key=r
theorem aET{K:Int}(w:World)(ρ:Nat→Nat)(P:Nat)(A:Adr)(f:fZ)(J:List aR)(t H:Nat)(key:ByteArray)(hSt:St w ρ P A f J)(hW:Wk f t H)(hrt:cD f t H)(hmem:Mem f.nodes H (aB f t) key)(hz:Sz K f)(hK1:1≤K)(hK:K+20*(H+3)≤600000)(hJl:J.length+25*(H+3)≤500000):
  Calls Tryz.prog 102 #[.pointer (some ⟨P,0,none⟩),.pointer (some ⟨A.ra,t*2+1,none⟩),.string key] w (RmP (25*(H+3)) (K+20*(H+3)) w ρ P A f J (bW f t H key)):=by
 have hL:dQ f (.root t):=hW.tl;have hLa:gR A (.root t) ⟨A.ra,t*2+1,none⟩:=rfl;go_enter Tryz.func102,Tryz.ntmps102;go_wp2_with fail;refine(iE w ρ P A f J (.root t) ⟨A.ra,t*2+1,none⟩ hSt hW.ic hz hK1 (by omega) (by omega) hL hLa (fun b i e=>by cases e)).mono ?_;intro e w3 hT;cases hsh:shadow f (.root t)with
 | none=>
  obtain⟨rfl,ρ3,A3,g3,J3,a1,a2,a3⟩:=hT.no hsh;have hno:bW f t H key=none:=by simp only[bW,hsh]
  exact⟨rfl,fun _=>⟨rfl,ρ3,A3,g3,J3,a1,a2,a3.up (by omega)⟩,fun g hgc=>by rw[hno]at hgc;cases hgc⟩
 | some gc=>
  obtain⟨g1,r⟩:=gc;obtain⟨ρ3,A3,J3,q3,rfl,hφ3,hDn,hTc,hz3⟩:=hT.yes g1 r hsh;obtain⟨w1,p1,a1,a2,a3,a4,a5,a6⟩:=hW.shadow_root hsh;have hmem1:Mem g1.nodes H r key:=(hW.shadow_root_mem hsh key H).1 hmem;have HD:Hid (bW f t H key=delAt H g1 t r key):=by
   show bW f t H key=_
   simp only[bW,hsh]
  obtain⟨m,hm1,hm2⟩:=lU (RmR w ρ P A f J K t H key (bW f t H key));have HM1:=aA hm1;have HM2:=aA hm2;have HX:=aA (aI hK hJl);have hri:∃h0,RmR w ρ P A f J K t H key (bW f t H key) h0 (.pointer (some ⟨q3,0,none⟩)) w3:=
   ⟨H,nR _,q3,r,ρ3,A3,g1,J3,H,_,_,_,rfl,hφ3,⟨hDn.st,hDn.mv,hDn.js.up (by omega),hDn.ad.top⟩,hz3.up (by omega),w1,p1,fun q=>absurd rfl q,a5 hrt,hmem1,hTc,HD.out.symm⟩
  clear hm1 hm2 hK hJl hDn hT HD;go_wp2;go_loopw [6] (fun v wr=>∃h,RmR w ρ P A f J K t H key (bW f t H key) h v wr) (fun v wr=>m v wr)
  case atStart=>exact hri
  case round=>
   obtain⟨h',hR'⟩:=hrel;have hR:=HM1.out _ _ _ hR';clear hR' hri;obtain⟨h,Hh⟩:=exH (m u6 wr);rw[←Hh.out]at hR;obtain⟨hle,q,b,ρ4,A4,f4,J4,H',Pt,lo,hi,rfl,hφ4,hDn,hz4,w4,p4,h3,hrt4,hmem4,hTb,hdel⟩:=hR;have hHle:=aA hle;have HDL:=aA hdel;clear hle hdel;cases h with
   | succ h=>
    obtain⟨es,hes,hnr,hne⟩:=p4.inner w4;obtain⟨q',junk,e1,hρq,hρa,hN⟩:=hDn.st.getNode hes;rw[hφ4]at e1;cases e1;have h2s:2≤sz f4.nodes b:=by
     by_cases hP:Pt=[]
     ·rcases p4.top with⟨_,q,q'⟩ | ⟨q,_⟩
      ·rcases hrt4 with hr | hr
       ·omega
       ·rw[←q]at hr;exact hr
      ·rw[hP]at q;cases q
     ·have:=h3 hP;omega
    have c0:wr.cell? ⟨q,0,none⟩=some (.int .i64 2):=by rw[hN.box.cell];rfl
    go_wp2_with fail
    refine(aBU (K:=K+10+20*((H -(h+1):Nat):Int)) wr ρ4 P A4 f4 J4 t H' Pt b h lo hi key q hDn.st w4 p4 h2s hφ4 hz4 (by omega) (by have:=HX.out;have:=hHle.out;omega) (by have:=HX.out;have:=hDn.js.len;have:=hHle.out;omega) hTb).mono ?_;intro e w5 hS;cases hsd:stepDel f4 b key with
    | none=>
     obtain⟨rfl,ρ5,A5,g5,J5,b1,b2,b3⟩:=hS.no hsd;have hno:bW f t H key=none:=by rw[←HDL.out];unfold delAt;rw[hsd]
     exact⟨rfl,fun _=>⟨rfl,ρ5,A5,g5,J5,b1,hDn.mv.trans b2 (fun _ _ e=>e),(hDn.js.trans b3).up (by have:=hHle.out;omega)⟩,fun g hgc=>by rw[hno]at hgc;cases hgc⟩
    | some gc=>
     obtain⟨g5,c5⟩:=gc;obtain⟨ρ5,A5,J5,q5,rfl,hφ5,hφb5,hDn5,hT5,hz5⟩:=hS.yes g5 c5 hsd;have hφb5':A5.φ b=some q:=hφb5.trans hφ4;have hD5:Dn (12+25*(H -(h+1))+24) (fun _=>True) w ρ P A f J w5 ρ5 A5 g5 J5:=⟨hDn5.st,hDn.mv.trans hDn5.mv (fun _ _ e=>e),hDn.js.trans hDn5.js,(hDn.ad.trans hDn5.ad).up fun _ _=>trivial⟩;have hTb5:Tch b J5:=hDn5.js.tch b hTb;rcases aBW w4 p4 h3 hrt4 hmem4 hsd with⟨es5,n1,n2,n3,n4,⟨P',lo',hi',n5⟩,n6,n7,n8⟩ | ⟨e5,n1,n2,n3,n4,n5,n6,H5,n7,n8,n9,n10⟩
     ·obtain⟨q',junk5,e1,-,-,hN5⟩:=hDn5.st.getNode n1
      rw[hφb5']at e1;cases e1;obtain⟨ab,hab⟩:∃ab,ab=A5.α b:=⟨_,rfl⟩;rw[←hab]at hN5;have c5':w5.cell? ⟨q,1,none⟩=some (.slice (adr ab) es5.length (es5.length+junk5.length)):=by rw[hN5.box.cell];rfl
      have hsm5:es5.length+junk5.length≤maxLen:=hN5.small;have hne5:((es5.length:Int) == 1)=false:=by simp;omega
      have hnew:RmR w ρ P A f J K t H key (bW f t H key) h (.pointer (some ⟨q5,0,none⟩)) w5:=
       ⟨by have:=hHle.out;omega,q5,c5,ρ5,A5,g5,J5,H',P',lo',hi',rfl,hφ5,⟨hD5.st,hD5.mv,hD5.js.up (by have:=hHle.out;omega),hD5.ad⟩,hz5.up (by have:=hHle.out;omega),n4,n5,fun _=>n6,n7,n8,hT5,by rw[←n3];exact HDL.out⟩
      clear hS hDn5 hDn hD5 hN5 hab n2 n3;go_wp2;go_roundw
      case rel=>exact⟨h,hnew⟩
      case measure=>
       have h1:=HM2.out _ _ _ hnew;have h2:=Hh.out;exact Nat.lt_of_le_of_lt h1 (by show h<m _ _;rw[←h2];exact Nat.lt_succ_self h)
     ·obtain⟨q',junk5,e1,hρq5,hρa5,hN5⟩:=hDn5.st.getNode n1
      rw[hφb5']at e1;cases e1;obtain⟨gb,hgb⟩:=hN5.arrOf (by simp);rw[hgb]at hN5;have c5':w5.cell? ⟨q,1,none⟩=some (.slice (some ⟨gb,0,none⟩) 1 (1+junk5.length)):=by rw[hN5.box.cell];rfl
      have hra:A5.ra=A.ra:=hD5.ad.ra;have h0:0≤(g5.roots.getD t (0,0)).2:=(n5.rb _ (aP n4)).1;obtain⟨hc5,-⟩:=hDn5.st.rootCell n4 h0;rw[←n3,hra]at hc5;have hcb:c5≠b:=fun e=>by
       have hk:c5∈kids (2,[e5]):=by rw[←n2];simp[kids]
       rw[e]at hk;exact n5.not_self n1 hk
      have hbl5:b<g5.cur.length:=hz5.lt b _ n1;have hchp:e5.2.2=(c5:Int):=by
       have:=n5.child_pos n1 (j:=0) (by simp)
       rw[←n2];unfold ch;have e6:([e5]:List E3).getD 0 e0=e5:=rfl;rw[e6]at this;omega
      have HN:=aA (aI n1 (aI n3 n6));have hJ5:=hD5.js.len;clear n3 n6;go_wp2_with fail;refine(aGS w5 ρ5 P A5 g5 J5 b hDn5.st hz5 (by have:=HX.out;have:=hHle.out;omega) hbl5).mono ?_;rintro e w6 ⟨rfl,ρ6,hS6,hM6,hF6⟩;have hne1:∀x,(x=cE b∨x=cC b)→¬(x=1∨x=6∨x=3∨x=4):=fun x e=>by unfold cE cC at e;omega
      have hN6:aM w6 q (2,[e5]) (some gb) junk5:=hN5.frm hF6 (by rw[hρq5];exact hne1 _ (.inl rfl)) (fun x e=>by cases e;rw[hρa5 gb hgb];exact hne1 _ (.inr rfl));have c6:w6.cell? ⟨q,1,none⟩=some (.slice (some ⟨gb,0,none⟩) 1 (1+junk5.length)):=by rw[hN6.box.cell];rfl
      have c7:w6.cell? ⟨gb,2,none⟩=some (.int .i64 c5):=by
       have:=(bH (hN6.arr gb rfl).1 (i:=0) (by simp)).2.2
       rw[show(([e5]++junk5:List E3).getD 0 e0)=e5 from rfl,hchp]at this;simpa using this
      have hL6:dQ (freeB g5 b) (.root t):=n4;obtain⟨vr,c8,hf8,-⟩:=hS6.locCell hL6 (p:=⟨A.ra,t*2+1,none⟩) (by show _=_;rw[←hra];rfl);obtain⟨hS7,hM7⟩:=hS6.setLoc hL6 (p:=⟨A.ra,t*2+1,none⟩) (by show _=_;rw[←hra];rfl) c5;have hz6:Sz (K+10+20*((H -(h+1):Nat):Int)+20) (setL (freeB g5 b) (.root t) c5):=by
       have hz':Sz (K+10+20*((H -(h+1):Nat):Int)+20) (freeB g5 b):=(hz5.setC b (v:=0) (by omega) (by omega)).noN b;exact hz'.setL hL6 c5
      have hJ7:JS (12+25*(H -(h+1))+24+1+0+0) f J (setL (freeB g5 b) (.root t) c5) (J5++[(b,cu g5 b,g5.nodes b)]):=((hD5.js.trans (JS.save hbl5)).trans (JS.freeB Tch.saved)).trans (JS.setL (.root t) c5 fun b' i' e=>(by cases e));have hT7:Tch c5 (J5++[(b,cu g5 b,g5.nodes b)]):=(JS.save hbl5).tch c5 hT5;have hfall:setL (freeB g5 b) (.root t) c5=fallF g5 t (aB g5 t) c5:=by rw[←HN.out.2.1];rfl
      rw[hfall]at hS7 hz6 hJ7;have hAd7:AdS (fun _=>True) A (gO A5 b):=(hD5.ad.trans (AdS.del A5 b)).up fun _ _=>trivial;have hnew:RmR w ρ P A f J K t H key (bW f t H key) h (.pointer (some ⟨q5,0,none⟩)) (w6.setCell ⟨A.ra,t*2+1,none⟩ (.int .i64 (c5:Int))):=
       ⟨by have:=hHle.out;omega,q5,c5,ρ6,gO A5 b,_,_,H5,[],none,none,rfl,(aC _ _ hcb).trans hφ5,⟨hS7,(hD5.mv.trans hM6 (fun _ _ e=>e)).trans hM7 (fun _ _ e=>e),hJ7.up (by have:=hHle.out;omega),hAd7⟩,hz6.up (by have:=hHle.out;omega),n7,n8,fun q=>absurd rfl q,n9,n10,hT7,by rw[←HN.out.2.2];exact HDL.out⟩
      clear hS hDn5 hDn hD5 hN5 hN6 hS6 hS7 hM6 hM7 hF6 hz6 hJ7 hT7 hfall hAd7 hchp;go_wp2;go_roundw
      case rel=>exact⟨h,hnew⟩
      case measure=>
       have h1:=HM2.out _ _ _ hnew;have h2:=Hh.out;exact Nat.lt_of_le_of_lt h1 (by show h<m _ _;rw[←h2];exact Nat.lt_succ_self h)
   | zero=>
    obtain⟨es,hes,hnr,hcz⟩:=p4.leaf w4;obtain⟨es',e1,j,hj,hk⟩:=hmem4;rw[hes]at e1;cases e1;have hlt:cLt es key<es.length:=by rw[(jU hnr.srt hj hk).2];exact hj
    obtain⟨q',junk,e1,hρq,hρa,hN⟩:=hDn.st.getNode hes;rw[hφ4]at e1;cases e1;have h10:=hz4.ent b _ hes;simp only at h10;have hbl:b<f4.cur.length:=hz4.lt b _ hes;obtain⟨g,hg⟩:=hN.arrOf (by simp only;omega);rw[hg]at hN;have hrm:bW f t H key=some (setN f4 b (1,delE es (cLt es key))):=by rw[←HDL.out];unfold delAt;rw[aE hes]
    have HRM:=aA hrm;clear hrm;have c0:wr.cell? ⟨q,0,none⟩=some (.int .i64 1):=by rw[hN.box.cell];rfl
    have c1:wr.cell? ⟨q,1,none⟩=some (.slice (some ⟨g,0,none⟩) es.length (es.length+junk.length)):=by rw[hN.box.cell];rfl
    have hNr:NRd wr (.slice (some ⟨g,0,none⟩) es.length (es.length+junk.length)) es:=hN.esl.nrd;go_wp2_with fail;refine(gS _ es key _ hNr (by omega) hnr.srt).mono ?_;rintro e w5 ⟨hB0,he⟩;have he':e=.returned (.tuple #[.int .i64 (cLt es key),.bool (fG es key)]):=he;subst he';have hS5:=hDn.st.below hB0;have hN5:=hN.below hB0;obtain⟨i,HI⟩:=exH (cLt es key);rw[←HI.out]at hlt ⊢;clear hN hNr c0 c1;go_wp2_with fail;refine(gJ q g 1 es junk i w5 hN5 h10 hlt).mono ?_;rintro e w6 ⟨rfl,⟨junk6,hN6⟩,hF6⟩;obtain⟨hS6,hM6⟩:=hS5.nodeSame hes hφ4 (hF6.wide fun x _ e=>by rcases e with e | e;exact .inl e;right;rw[hg,e]) (by rw[hg];exact hN6);rw[HI.out]at hS6;have HF:=aA (show Dn (25*(H+3)) (fun _=>True) w ρ P A f J w6 ρ4 A4 (setN f4 b (1,delE es (cLt es key))) J4∧Sz (K+20*(H+3)) (setN f4 b (1,delE es (cLt es key)))from
     ⟨⟨hS6,(hDn.mv.trans (Mv.of_below hB0) (fun _ _ e=>e)).trans hM6 (fun _ _ e=>e),(hDn.js.trans (JS.setN _ hTb)).up (by omega),hDn.ad⟩,(hz4.up (by omega)).setN hbl (by have:=bI es (cLt es key) (by rw[←HI.out];exact hlt);simp only;omega)⟩)
    clear hS6 hM6 hN6 hF6 hS5 hN5 hDn;go_wp2;first | go_end0 | refine bodyPost_ret (results_none rfl _ _ _) rfl ?_
    obtain⟨hDf,hzf⟩:=HF.out;refine⟨fun q=>(by rw[HRM.out]at q;cases q),fun g' hg'=>?_⟩;rw[HRM.out]at hg';cases hg';exact⟨rfl,_,_,J4,hDf,hzf⟩
structure FdR(w:World)(A:Adr)(f:fZ)(key:ByteArray)(H:Nat)(r:OB)(h:Nat)(v:Value)(W:World):Prop where
 ex:∃q b lo hi,v=.pointer (some ⟨q,0,none⟩)∧A.φ b=some q∧Bl w W∧Ok f.nodes h b lo hi∧Fo.find f.nodes h b key=r
theorem aCV{K:Int}(w:World)(ρ:Nat→Nat)(P:Nat)(A:Adr)(f:fZ)(J:List aR)(H b:Nat)(lo hi:OB)(key:ByteArray)(hSt:St w ρ P A f J)(hI:IC f)(hok:Ok f.nodes H b lo hi)(hz:Sz K f):
  Calls Tryz.prog 100 #[.pointer (some ⟨P,0,none⟩),.int .i64 b,.string key] w fun e w'=>e=.returned (.tuple #[.string ((Fo.find f.nodes H b key).getD .empty),.bool (Fo.find f.nodes H b key).isSome])∧Bl w w':=by
 obtain⟨ja,jp,jj,hR,hJ⟩:=id hSt;have hn512:=hz.n512;have hlkA:∀(W:World) (x q:Nat),Bl w W→A.φ x=some q→x<512→(Instr.lookup 68 (.map (some A.m)) (.int .i64 x) false).run Tryz.prog W=.ok (.pointer (some ⟨q,0,none⟩)) W:=fun W x q hB hx hl=>by
  have:=(hR.hm.of (hB.block _ hR.hm.lt)).lookup x hl
  rw[hx]at this;simpa only[eY,Option.map_some] using this
 have HLK:=aA hlkA;clear hlkA;have hlive:∀(h b:Nat) (lo hi:OB),Ok f.nodes h b lo hi→∃d,f.nodes b=some d:=fun h b lo hi hk=>by
  cases h with
  | zero=>obtain⟨es,e1,_⟩:=hk;exact⟨_,e1⟩
  | succ h=>obtain⟨es,e1,_⟩:=hk;exact⟨_,e1⟩
 obtain⟨d,hd⟩:=hlive _ _ _ _ hok;obtain⟨q0,junk0,hφ0,-,-,hN0⟩:=hSt.getNode hd;have hbl:=hz.lt b d hd;have m3:=hR.cells.m3;have hlk0:=HLK.out w b q0 (bQ _ _) hφ0 (by omega);obtain⟨m,hm1,hm2⟩:=lU (FdR w A f key H (Fo.find f.nodes H b key));have HM1:=aA hm1;have HM2:=aA hm2;have hri:∃h0,FdR w A f key H (Fo.find f.nodes H b key) h0 (.pointer (some ⟨q0,0,none⟩)) w:=⟨H,q0,b,lo,hi,rfl,hφ0,bQ _ _,hok,rfl⟩;have HLV:=aA hlive;generalize hr:Fo.find f.nodes H b key=r at *;clear hm1 hm2 hlive;have hPl:=hR.hP.lt;go_enter Tryz.func100,Tryz.ntmps100;go_wp2;clear hlk0;go_loopw [8] (fun v wr=>∃h,FdR w A f key H r h v wr) (fun v wr=>m v wr)
 case atStart=>exact hri
 case round=>
  obtain⟨h',hR'⟩:=hrel;have hRr:=HM1.out _ _ _ hR';clear hR' hri;obtain⟨h,Hh⟩:=exH (m u8 wr);rw[←Hh.out]at hRr;obtain⟨q,b,lo,hi,rfl,hφ,hB,hok,hf⟩:=hRr;have hS:=hSt.frm (w':=wr) (Frm.of_below hB);have n3:wr.cell? ⟨P,3,none⟩=some (.map (some A.m)):=(hB.cell (p:=⟨P,3,none⟩) hPl).trans m3;cases h with
  | succ h=>
   obtain⟨es,hes,hnr,hne,e4,e5⟩:=hok;obtain⟨q',junk,e1,-,-,hN⟩:=hS.getNode hes;rw[hφ]at e1;cases e1;have h10:=hz.ent b _ hes;simp only at h10;obtain⟨g,hg⟩:=hN.arrOf (by simp only;exact List.length_pos_iff.2 hne);rw[hg]at hN;have hi1:bK es key<es.length:=eE key hne;obtain⟨c,Hc⟩:=exH (kd es (bK es key));obtain⟨dc,hdc⟩:=HLV.out _ _ _ _ (e5 _ hi1).2;rw[←Hc.out]at hdc;obtain⟨qc,junkc,hφc,-,-,-⟩:=hS.getNode hdc;have hcl:=hz.lt c _ hdc;have hcp:(es.getD (bK es key) e0).2.2=(c:Int):=by
    have:=hI.child_pos hes hi1
    rw[Hc.out];unfold kd ch;omega
   have hfc:Fo.find f.nodes h c key=r:=by
    rw[←hf,Hc.out];conv=>rhs;unfold Fo.find;rw[dN hes]
   have hokc:=(e5 _ hi1).2;rw[←Hc.out]at hokc;have hent:=(bH (hN.arr g rfl).1 (i:=bK es key) (by simp;omega)).2.2;rw[gD,List.getElem?_append_left hi1,←gD,hcp]at hent;have hS1:∀W:World,Bl wr W→W.cell? ⟨P,3,none⟩=some (.map (some A.m))∧W.cell? ⟨q,1,none⟩=some (.slice (some ⟨g,0,none⟩) es.length (es.length+junk.length))∧W.cell? ⟨g,bK es key*3+2,none⟩=some (.int .i64 c)∧(Instr.lookup 68 (.map (some A.m)) (.int .i64 c) false).run Tryz.prog W=.ok (.pointer (some ⟨qc,0,none⟩)) W:=fun W hW=>by
    have hN':=hN.below hW;refine⟨(hW.cell (p:=⟨P,3,none⟩) (lL hPl hB.size)).trans n3,by rw[hN'.box.cell];rfl,(hW.cell (p:=⟨g,bK es key*3+2,none⟩) (hN.arr g rfl).1.lt).trans hent,HLK.out W c qc (hB.trans (hW.mono hB.size)) hφc (by omega)⟩
   have HS1:=aA hS1;have hi1':((bK es key:Nat):Int) <(es.length:Int):=by omega
   have c0:wr.cell? ⟨q,0,none⟩=some (.int .i64 2):=by rw[hN.box.cell];rfl
   have hq0:=hS1 wr (bQ _ _);clear hS1 hent hcp;generalize hI1:bK es key=i at *;have hqd:=HS1.out wr.drew (bQ wr.heap.size wr).drew;go_wp2;go_region_held3 (fun W=>W.cell? ⟨P,3,none⟩=some (.map (some A.m))∧W.cell? ⟨q,1,none⟩=some (.slice (some ⟨g,0,none⟩) es.length (es.length+junk.length))∧W.cell? ⟨g,i*3+2,none⟩=some (.int .i64 c)∧(Instr.lookup 68 (.map (some A.m)) (.int .i64 c) false).run Tryz.prog W=.ok (.pointer (some ⟨qc,0,none⟩)) W) (first | go_keep | exact hqd | exact HS1.out _ hB1) ((go_at_call 121;refine(gW q (2,es) (some g) junk key _ (hN.below (bQ _ _).drew) hnr.srt h10).mono ?_;rintro e w1 ⟨rfl,hB0⟩;have hB1:Bl wr w1:=(bQ wr.heap.size wr).drew.trans hB0;obtain⟨x1,x2,x3,x4⟩:=HS1.out _ hB1;simp only[hI1]));have hBn:=hB.trans (hB1.mono hB.size);have hnew:FdR w A f key H r h (.pointer (some ⟨qc,0,none⟩)) w1:=⟨qc,c,_,_,rfl,hφc,hBn,hokc,hfc⟩;clear x1 x2 x3 x4 hq0 hqd;go_wp2;go_roundw
   case rel=>exact⟨h,hnew⟩
   case measure=>
    have h1:=HM2.out _ _ _ hnew;have h2:=Hh.out;exact Nat.lt_of_le_of_lt h1 (by show h<m _ _;rw[←h2];exact Nat.lt_succ_self h)
  | zero=>
   obtain⟨es,hes,hnr,hcz⟩:=hok;obtain⟨q',junk,e1,-,-,hN⟩:=hS.getNode hes;rw[hφ]at e1;cases e1;have h10:=hz.ent b _ hes;simp only at h10;obtain⟨a,ha⟩:∃a,a=A.α b:=⟨_,rfl⟩;rw[←ha]at hN;clear ha;have c0:wr.cell? ⟨q,0,none⟩=some (.int .i64 1):=by rw[hN.box.cell];rfl
   have c1:wr.cell? ⟨q,1,none⟩=some (.slice (adr a) es.length (es.length+junk.length)):=by rw[hN.box.cell];rfl
   have hNr:NRd wr (.slice (adr a) es.length (es.length+junk.length)) es:=hN.esl.nrd;have hf':r=if fG es key=true then some (es.getD (cLt es key) e0).2.1 else none:=by rw[←hf];unfold Fo.find;rw[dN hes]
   have HFD:=aA hf';clear hf hf' hr;go_wp2_with fail;refine(gS _ es key _ hNr (by omega) hnr.srt).mono ?_;rintro e w5 ⟨hB0,he⟩;have he':e=.returned (.tuple #[.int .i64 (cLt es key),.bool (fG es key)]):=he;subst he';have hBn:=hB.trans (hB0.mono hB.size);by_cases hk:fG es key=true
   ·obtain⟨k1,k2⟩:=(dF es key).1 hk
    have hN5:=hN.below hB0;obtain⟨g,rfl⟩:=hN5.arrOf (by simp only;omega);have c5:w5.cell? ⟨q,1,none⟩=some (.slice (some ⟨g,0,none⟩) es.length (es.length+junk.length)):=by rw[hN5.box.cell];rfl
    have c6:=(bH (hN5.arr g rfl).1 (i:=cLt es key) (by simp;omega)).2.1;rw[gD,List.getElem?_append_left k1,←gD]at c6;have hii:((cLt es key:Nat):Int) <(es.length:Int):=by omega
    obtain⟨v,HV⟩:=exH ((es.getD (cLt es key) e0).2.1);rw[←HV.out]at c6;rw[hk];have HK:=aA hk;clear hk k2 hN hNr c0 c1;generalize cLt es key=i at *;go_wp2;refine bodyPost_ret (v:=.tuple #[.string v,.bool true]) (by simp[results,Tryz.results100,go_sem]) rfl ?_;refine⟨?_,hBn⟩;rw[HFD.out,if_pos HK.out,←HV.out];rfl
   ·have hkf:fG es key=false:=by simpa using hk
    rw[hkf];have HK:=aA hk;clear hk hN hNr c0 c1;go_wp2;refine bodyPost_ret (v:=.tuple #[.string ⟨#[]⟩,.bool false]) (by simp[results,Tryz.results100,go_sem]) rfl ?_;refine⟨?_,hBn⟩;rw[HFD.out,if_neg HK.out];rfl
