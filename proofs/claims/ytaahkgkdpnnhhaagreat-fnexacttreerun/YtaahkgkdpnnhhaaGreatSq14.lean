import Derived.Test.YtaahkgkdpnnhhaaGreatSq11
set_option maxHeartbeats 9999999
set_option maxRecDepth 99999
set_option linter.all false
namespace Go.Proofs.YtaahkgkdpnnhhaaGreat
open Go.RowKit Fo
theorem xV{g:fZ}{t H:Nat}(wk:Wk g t H){P:List Nat}{b h:Nat}{lo hi:OB}(p:aN g t H P b (h+1) lo hi)(hV:VE g)(h16:g.roots.length≤16){es:List E3}(hes:g.nodes b=some (2,es)){i:Nat}(hil:i<es.length)(h2:2≤es.length){k:Int}{ces:List E3}(hc:g.nodes (kd es i)=some (k,ces))(cc:cu g (kd es i)=1)(c2:ces.length=2)(w:World)(S:Nat)(A:SA)(hS:Sp w S A g):
  Calls Tryz.prog 95 #[.pointer (some ⟨S,0,none⟩),.int .i64 b,.int .i64 i] w (ZpP w S A (if i+1<es.length then fillNext g b i (kd es i)else fillLast g b i (kd es i))):=by
 by_cases hn:i+1<es.length
 ·rw[if_pos hn]
  obtain⟨ses,hs,hs2,b1,b2,b3⟩:=wk.sibling p hes hil hn (by omega) hc cc;have hW:Wd g b es i (i+1) k ces ses:=⟨wk.ic,hV,h16,fun _ _ q=>wk.ent q,hes,hil,hn,hc,hs,b1,b2,b3,c2,hs2⟩;by_cases e:ses.length=2
  ·rw[uC hes hc hs e]
   refine(oI hW e w S A hS).mono ?_;rintro r w' ⟨rfl,hz⟩;exact⟨fun q=>(by cases q),fun g' q=>(by cases q;exact⟨rfl,hz⟩)⟩
  ·rw[uP wk.ic hV hes hn hc hs b1 b3 (by omega)]
   exact oS hW (by omega) w S A hS
 ·rw[if_neg hn]
  obtain⟨j,rfl⟩:∃j,i=j+1:=⟨i-1,by omega⟩;obtain⟨ses,hs,hs2,b1,b2,b3⟩:=wk.sibling p hes hil (show j<es.length by omega) (by omega) hc cc;have hW:Wd g b es (j+1) j k ces ses:=⟨wk.ic,hV,h16,fun _ _ q=>wk.ent q,hes,hil,by omega,hc,hs,b1,b2,b3,c2,hs2⟩;by_cases e:ses.length=2
  ·rw[sX wk.ic hV hes hil hc hs e]
   refine(oK hW hn e w S A hS).mono ?_;rintro r w' ⟨rfl,hz⟩;exact⟨fun q=>(by cases q),fun g' q=>(by cases q;exact⟨rfl,hz⟩)⟩
  ·rw[uT wk.ic hV hes hil hc hs b1 b3 (by omega)]
   exact pB hW hn (by omega) w S A hS
structure DeR(w:World)(S:Nat)(A:SA)(t:Nat)(key:ByteArray)(RM:Option fZ)(h:Nat)(c:Value)(wr:World):Prop where
 ex:∃(H:Nat) (f:fZ) (P:List Nat) (b:Nat) (lo hi:OB) (A':SA),c=.int .i64 b∧Wk f t H∧aN f t H P b h lo hi∧(P≠[]→3≤sz f.nodes b)∧cD f t H∧Mem f.nodes h b key∧VE f∧f.roots.length≤16∧Sp wr S A' f∧SaS A A'∧RM=delAt h f t b key
 frm:Frm (fun k=>k=A.ga∨k=A.gr) w wr
theorem Sp.chain{w w1:World}{A A1:SA}(hF:Frm (fun k=>k=A.ga∨k=A.gr) w w1)(hA:SaS A A1){w2:World}(h2:Frm (fun k=>k=A1.ga) w1 w2):Frm (fun k=>k=A.ga∨k=A.gr) w w2:=hF.trans (h2.wide fun k _ e=>.inl (e.trans hA.ga))
theorem aBH{f:fZ}{b:Nat}{es:List E3}(hes:f.nodes b=some (2,es))(key:ByteArray):stepDel f b key=match shadow f (.ent b (bK es key))with
  | none=>none
  | some (g,c)=>if 2 <(Fo.look g c).2.length then some (g,c)else if bK es key+1 <(Fo.look g b).2.length then(fillNext g b (bK es key) c).map fun k=>(k,c)else(fillLast g b (bK es key) c).map fun k=>(k,c):=by
 unfold stepDel;rw[aE hes];rfl
theorem aAT{h:Nat}{f:fZ}{t b:Nat}{key:ByteArray}(q:stepDel f b key=none):delAt (h+1) f t b key=none:=by
 unfold delAt;rw[q]
theorem aIH{g:fZ}{t b c:Nat}(x:Nat)(d:Nd)(h:(fallF g t b c).nodes x=some d):g.nodes x=some d:=by
 have h':upd g.nodes b none x=some d:=h;by_cases e:x=b
 ·rw[e,aD]at h';cases h'
 ·rw[aC _ _ e]at h';exact h'
theorem aAD{g:fZ}{b:Nat}(h:1≤(Fo.look g b).2.length):∃d,g.nodes b=some d∧Fo.look g b=d:=by
 cases e:g.nodes b with
 | none=>unfold Fo.look at h;rw[e]at h;simp at h
 | some d=>exact⟨d,rfl,aE e⟩
theorem xN{f:fZ}{t H:Nat}{key:ByteArray}(wk:Wk f t H)(hV:VE f)(h16:f.roots.length≤16)(hrt:cD f t H)(hm:Mem f.nodes H (aB f t) key)(w:World)(S:Nat)(A:SA)(hS:Sp w S A f):
  Calls Tryz.prog 71 #[.pointer (some ⟨S,0,none⟩),.int .i64 t,.string key] w (ZqP w S A (bW f t H key)):=by
 have hbn:=gQ;have hbe:=iT;have ht:=wk.tl;have hE:=fun b' d' (hd':f.nodes b'=some d')=>(by have:=wk.ent hd';omega:d'.2.length≤10);obtain⟨_,s1,s2,_⟩:=hS.cells;obtain⟨r0,r1⟩:=hS.v.root ht;have h0:0≤(f.roots.getD t (0,0)).2:=(wk.ic.rb _ (aP ht)).1;have hrb:(f.roots.getD t (0,0)).2=(aB f t:Int):=by unfold aB;omega
 rw[hrb]at r1;have htI:(t:Int) <(f.roots.length:Int):=by omega
 have HSH:=aA (mE wk.ic hE w S A hS h16 t ht);have HRM:Hid (bW f t H key=match shadow f (.root t)with
  | none=>none
  | some (g,r)=>delAt H g t r key):=rfl
 generalize bW f t H key=RM at *;clear hE hrb h0 r0;go_enter Tryz.func71,Tryz.ntmps71;go_wp2_with fail;refine HSH.out.mono ?_;intro r w1 hz;obtain⟨hF1,hzn,hzy⟩:=hz;cases hsh:shadow f (.root t)with
 | none=>
  obtain rfl:=hzn hsh;have HP:Hid (RM=none):=by show RM=none;rw[HRM.out];rw[hsh]
  clear hzn hzy hsh;go_wp2;go_ret;rw[HP.out];exact⟨hF1.wide fun _ _ e=>.inl e,fun _=>rfl,fun g q=>by cases q⟩
 | some gc=>
  obtain⟨g,r⟩:=gc;obtain⟨rfl,A1,f1,hS1,hA1,hr1,hr2,hn1,hn2,hn3,hn4,hn5⟩:=hzy g r hsh;obtain⟨wk1,p1,a1,a2,a3,a4,a5,a6⟩:=wk.shadow_root hsh;have hVg:=hV.shadow_root hsh;have hmg:=(wk.shadow_root_mem hsh key H).1 hm;rw[hsh]at HRM;simp only at HRM;have ht1:t<f1.roots.length:=by rw[hr1];exact ht
  obtain⟨hS2,hF2⟩:=hS1.setRoot ht1 r;have hS3:Sp (w1.setCell ⟨A1.gr,t*2+1,none⟩ (.int .i64 r)) S A1 g:=hS2.sub hn1 hn2 hr2 hn3 hn4 hn5;obtain⟨_,t1,t2,_⟩:=hS1.cells;obtain⟨_,z1⟩:=hS1.v.root ht1;have z2:=hS1.v.rts.frozen (t*2+1);have hF3:Frm (fun k=>k=A.ga∨k=A.gr) w (w1.setCell ⟨A1.gr,t*2+1,none⟩ (.int .i64 r)):=(hF1.wide fun _ _ e=>.inl e).trans (hF2.wide fun _ _ e=>.inr (e.trans hA1.gr));obtain⟨w2,hw2⟩:=eZ (w1.setCell ⟨A1.gr,t*2+1,none⟩ (.int .i64 r));rw[hw2]at hS3 hF3;have ht1I:(t:Int) <(f1.roots.length:Int):=by omega
  have hr0:¬((r:Int)<0):=by omega
  have HRT:g.roots.length≤16:=by rw[a6.len];exact h16
  have HD:Hid (DeR w S A t key RM H (.int .i64 r) w2):=⟨⟨H,g,[],r,none,none,A1,rfl,wk1,p1,fun q=>absurd rfl q,a5 hrt,hmg,hVg,HRT,hS3,hA1,HRM.out⟩,hF3⟩;obtain⟨m,hm1,hm2⟩:=lU (DeR w S A t key RM);have HM1:=aA hm1;have HM2:=aA hm2;clear hzn hzy hsh hF1 hF2 hF3 hS1 hS2 hS3 hr1 hr2 hn1 hn2 hn3 hn4 hn5 hA1 HSH a1 a2 a3 a4 a5 a6 wk1 p1 hVg hmg HRT hm1 hm2 HRM hS wk hV hm hrt;go_wp2;clear hw2;go_loopw [7,8,9,10] (fun c _ _ _ wr=>∃h,DeR w S A t key RM h c wr) (fun c _ _ _ wr=>m c wr)
  case atStart=>exact⟨H,HD.out⟩
  case round=>
   clear HD;obtain⟨h0,hR0⟩:=hrel;have hR:=HM1.out _ _ _ hR0;obtain⟨hh,hhe⟩:=eZ (m u7 wr);rw[hhe]at hR;clear hR0;obtain⟨⟨H1,f1,P1,b,lo,hi,A1,rfl,wk,p,h3,hrt,hm,hV,h16,hS,hA,hRM⟩,hF⟩:=hR;have HRM:=aA hRM;have HF:=aA hF;have HA:=aA hA;obtain⟨_,s1,_⟩:=hS.cells;have hSg:S≠A1.ga:=hS.box.type_ne hS.v.nds.arr (by decide);clear hRM hF hA;cases hh with
   | zero=>
    obtain⟨es,hes,hn,hc⟩:=p.leaf wk;obtain⟨es',q1,j0,hj0,hk0⟩:=hm;rw[hes]at q1;cases q1;have hlen:=wk.ent hes;simp only at hlen;have hbl:=wk.ic.lt hes;obtain⟨a,cp,hsl,hbA,_,c0,c1,_⟩:=hS.v.nds.at hes;simp only at hsl c0 c1;obtain⟨g0,o0,cc,he,hg0,hcell⟩:=dZ hsl (by omega);cases he;have hbI:(b:Int) <(A1.ns.length:Int):=by omega
    have HDE:Hid (RM=some (setN f1 b (1,delE es (cLt es key)))):=by
     show RM=_
     rw[HRM.out];unfold delAt;rw[aE hes]
    have HWO:=aA fun(i:Nat) (hi:i<es.length)=>hS.withoutM (i:=i) hsl hi (by omega) 1 hbl;have HS:=aA hS;have HKJ:=aA hk0;clear hsl wk p hV hS HRM hrt h3;go_wp2;go_loopw [12] (fun i wx=>∃j:Nat,j≤j0∧i=.int .i64 j∧Is2 (.bool false) (.bool false) wx wr∧Hid (∀x,x<j→ky es x≠key)) (fun i _=>es.length -(intOf i).toNat)
    case atStart=>exact⟨0,by omega,rfl,⟨rfl,rfl⟩,fun x hx=>by omega⟩
    case round=>
     obtain⟨j,hj,rfl,⟨_,hwx⟩,hall⟩:=hrel;subst hwx;have hlt:j<es.length:=by omega
     obtain⟨x0,_,_⟩:=hcell wr j rfl hlt;have hji:(j:Int) <(es.length:Int):=by omega
     have HK:Hid (ky es j=(es.getD j e0).1):=rfl;clear hcell;generalize (es.getD j e0).1=x at *;by_cases he:x=key
     ·have hq:(x.toList == key.toList)=true:=by rw[he];exact beq_self_eq_true _
      have HC:Hid (cLt es key=j):=(jU hn.srt hlt (HK.out.trans he)).2;have HCH:=aA (HWO.out j hlt);clear he HWO;go_wp2;go_region_held3 (fun W=>W.cell? ⟨S,1,none⟩=some (.slice (some ⟨A1.ga,0,none⟩) A1.ns.length (A1.ns.length+A1.nj.length))) (first | assumption | go_keep | exact bV hSg hX1) ((go_at_call 96;refine HCH.out.mono ?_;rintro r w3 ⟨⟨y,rfl,hyk,hyN⟩,hb3,hX1,k0,k1,hk0,hk1,hz0,hz1⟩));rw[dG hyk];obtain⟨⟨A4,hS4,hA4⟩,hF4⟩:=HS.out.store hb3 hbl hyN;have HR:Hid (ZqP w S A RM (.returned (.bool true)) (set2 w3 A1.ga b y)):=by
       show ZqP _ _ _ _ _ _
       rw[HDE.out,HC.out];refine⟨Sp.chain HF.out HA.out hF4,fun q=>(by cases q),fun g2 q2=>?_⟩;cases q2;exact⟨rfl,A4,hS4,HA.out.trans hA4⟩
      clear hX1 hk0 hk1 hz0 hz1 hS4 hF4;go_wp2;go_ret;exact HR.out
     ·have hq:(x.toList == key.toList)=false:=by rw[beq_eq_false_iff_ne];exact fun e=>he (gP e)
      have hjj:j<j0:=by
       rcases Nat.lt_or_eq_of_le hj with q | q
       ·exact q
       ·exfalso;apply he;rw[←HK.out,q];exact HKJ.out
      have HAL:Hid (∀z,z<j+1→ky es z≠key):=fun z hz=>by
       by_cases e:z=j
       ·rw[e,HK.out];exact he
       ·exact hall.out z (by omega)
      clear he HWO;go_wp2;go_roundw
      case rel=>exact⟨j+1,by omega,by go_num,⟨rfl,rfl⟩,HAL.out⟩
      case measure=>simp[intOf];omega
   | succ h=>
    obtain⟨es1,hes1,hnr1,hne1⟩:=p.inner wk;have hl10:es1.length≤5:=wk.ent hes1;have hbl:=wk.ic.lt hes1;have hE1:=fun b' d' (hd':f1.nodes b'=some d')=>(by have:=wk.ent hd';omega:d'.2.length≤10);have h2e:=Wk.two p hrt h3 hes1;obtain⟨a,vc,hsl1,hbA,_,c0,c1,_⟩:=hS.v.nds.at hes1;simp only at hsl1 c0 c1;have HFOR:=aA (rN hnr1.srt key);have hil:=eE key hne1;obtain⟨v1,_⟩:=hV.inner wk.ic hes1 hil;obtain⟨g1,o1,cc1,he1,hg1,hcell1⟩:=dZ hsl1 (by omega);cases he1;have hfor:=uW (.slice (some ⟨g1,o1,none⟩) es1.length vc) es1 key wr hsl1 (by omega);rw[HFOR.out]at hfor;have HSE:=aA (aBH hes1 key);have HDR:=aA fun(g:fZ) (c:Nat) (q:stepDel f1 b key=some (g,c))=>wk.delRound p hrt h3 hm q;have HNO:Hid (stepDel f1 b key=none→delAt (h+1) f1 t b key=none):=aAT;generalize bK es1 key=i at *;obtain⟨x0,x1,x2⟩:=hcell1 wr i rfl hil;rw[v1]at x0 x1 x2;have hilI:(i:Int) <(es1.length:Int):=by omega
    have hbI:(b:Int) <(A1.ns.length:Int):=by omega
    have HSH:=aA (gU wk.ic hE1 hV wr S A1 hS h16 b i es1 hes1 hil);clear hcell1 v1;go_wp2_with fail;refine hfor.mono ?_;rintro r w2 ⟨rfl,rfl⟩;go_wp2_with fail;refine HSH.out.mono ?_;intro r w3 hz;obtain⟨hF3,hzn,hzy⟩:=hz;cases hsh:shadow f1 (.ent b i)with
    | none=>
     obtain rfl:=hzn hsh;have HP:Hid (RM=none):=by
      show RM=none
      rw[HRM.out];exact HNO.out (by rw[HSE.out,hsh])
     clear hzn hzy hsh;go_wp2;go_ret;rw[HP.out];exact⟨Sp.chain HF.out HA.out hF3,fun _=>rfl,fun g q=>by cases q⟩
    | some gc=>
     obtain⟨g,c⟩:=gc;obtain⟨rfl,A3,f3,hS3,hA3,hlf,hfin⟩:=hzy g c hsh;obtain⟨wk2,p2,p3,⟨es2,m1,m2,m3,m4⟩,m5,m6,m7,_,m9⟩:=wk.shadow_ent p hes1 hil hsh;have hV2:=hV.shadow_ent wk.ic hes1 hil hsh;rw[hsh]at HSE;simp only at HSE;obtain⟨es',hes'⟩:=eZ (es1.set i (ky es1 i,.empty,(c:Int)));rw[hes']at hfin;have hm2:g.nodes b=some (2,es'):=by
      have:=hfin.sub b _ m1
      have e:(setN f3 b (2,es')).nodes b=some (2,es'):=aD _ _ _;rw[e]at this;rw[m1];exact this.symm
     have hkd':kd es' i=c:=by rw[m1]at hm2;cases hm2;exact m4
     obtain⟨⟨k,ces⟩,hdc⟩:=wk2.ic.live (x:=c) (by rw[m6];omega);have hcl:=wk2.ent hdc;have hel:=wk2.ent hm2;simp only at hcl hel;have hcz:2≤ces.length:=by
      have:=(p3.ok wk2.ok).2 (by simp);unfold sz at this;rw[hdc]at this;exact this
     have hbl3:b<f3.cur.length:=by rw[hlf];exact hbl
     have hsl3:yE.Sl w3 (.slice (some ⟨g1,o1,none⟩) es1.length vc) es1:=hsl1.frm hF3 fun g cs hg=>hg.type_ne hS.v.nds.arr (by decide);obtain⟨y0,y1,y2⟩:w3.cell? ⟨g1,o1+i*3,none⟩=some (.string (ky es1 i))∧w3.cell? ⟨g1,o1+i*3+1,none⟩=some (.string .empty)∧w3.cell? ⟨g1,o1+i*3+2,none⟩=some (.int .i64 (kd es1 i)):=by
      have hne:g1≠A1.ga:=by
       rcases hsl1 with⟨q,_⟩ | ⟨g',o',cap',xs,q,q1,_⟩
       ·cases q
       ·cases q;exact q1.type_ne hS.v.nds.arr (by decide)
      have hw:∀k,w3.cell? ⟨g1,k,none⟩=w2.cell? ⟨g1,k,none⟩:=fun k=>by simp[World.cell?,hF3.block g1 hg1 hne]
      exact⟨(hw _).trans x0,(hw _).trans x1,(hw _).trans x2⟩
     have HSWP:Hid (Calls Tryz.prog 94 #[.slice (some ⟨g1,o1,none⟩) es1.length vc,.int .i64 i,.agg #[.string (ky es1 i),.string .empty,.int .i64 c]] w3 fun r w'=>∃u,r=.returned u∧yE.Own w3.heap.size w' u es'∧Bl w3 w'):=by
      rw[←hes'];exact eR _ es1 i (ky es1 i,ByteArray.empty,(c:Int)) w3 hsl3 hil (by omega)
     have hc0:¬((c:Int)<0):=by omega
     have HFR3:Hid (Frm (fun k=>k=A.ga∨k=A.gr) w w3):=Sp.chain HF.out HA.out hF3;have HA3:Hid (SaS A A3):=HA.out.trans hA3;have HRT:Hid (g.roots.length≤16):=by show g.roots.length≤16;rw[m9.len];exact h16
     have HEL:Hid (es'.length=es1.length):=by show es'.length=_;rw[←hes',List.length_set]
     clear hzn hzy hsl1 hS hes' m1 m2 m3 m4 m5 m7 m9 hE1 hfor HSH hF3 hA3 hlf x0 x1 x2 hsl3 hm wk p hV hrt h3;go_wp2_with fail;refine HSWP.out.mono ?_;rintro r w4 ⟨u,rfl,hu,hb4⟩;obtain⟨x,rfl,hxk,hxN⟩:=hu.nv 2;have hS4:=hS3.below hb4;obtain⟨k0,k1,hk0,hk1,hz0,hz1,hbI3⟩:=hS4.wr hbl3;obtain⟨_,t1',_⟩:=hS4.cells;obtain⟨⟨A5,hS5,hA5⟩,hF5⟩:=hS3.fin hb4 hbl3 hxN hfin;have HF5:Hid (Frm (fun k=>k=A.ga∨k=A.gr) w (set2 w4 A3.ga b x)):=Sp.chain HFR3.out HA3.out hF5;have HA5:Hid (SaS A A5):=HA3.out.trans hA5;have hw5:=dG (w:=w4) (g:=A3.ga) (q:=b) hxk;obtain⟨w5,hww⟩:=eZ (set2 w4 A3.ga b x);rw[hww]at hS5 HF5 hw5;have HX5:=aA hS5;obtain⟨_,t5,_⟩:=hS5.cells;obtain⟨ac,cpc,hslc,hcA,_,d0,d1,hcpc⟩:=hS5.v.nds.at hdc;simp only at hslc d0 d1 hcpc;have hcI:(c:Int) <(A5.ns.length:Int):=by omega
     clear hS4 hb4 hF5 hA5 hxN hu hS3 hww hS5;go_upto_if 89 with fail
     clear hw5;rw[aE hdc,aE hm2]at HSE;simp only at HSE;by_cases hf2:ces.length=2
     ·have hfb:((ces.length:Int) == 2)=true:=by rw[hf2];rfl
      rw[if_neg (by omega)]at HSE;have hie:i<es'.length:=by rw[HEL.out];exact hil
      have hWd:=xV wk2 p2 hV2 HRT.out hm2 hie (by rw[HEL.out];exact h2e) (by rw[hkd'];exact hdc) (by rw[hkd'];exact m6) hf2 w5 S A5 HX5.out;rw[hkd']at hWd;obtain⟨FW,hFW⟩:=eZ ((if i+1<es'.length then fillNext g b i c else fillLast g b i c));rw[hFW]at hWd;have hSD:stepDel f1 b key=FW.map fun k=>(k,c):=by
       rw[HSE.out,←hFW];split<;>rfl
      have hVF:∀g2,FW=some g2→VE g2:=fun g2 q=>by
       rw[←hFW]at q;split at q
       ·rename_i hn
        exact hV2.fillNext wk2.ic hm2 hn q
       ·rename_i hn
        have:=h2e
        exact hV2.fillLast wk2.ic hm2 hie (by have:=HEL.out;omega) q
      have HWD:=aA hWd;rw[hfb];clear hf2 hfb hslc hWd HSE hFW hkd';go_wp2_with fail;refine HWD.out.mono ?_;intro e w6 hz;cases FW with
      | none=>
       obtain⟨rfl,hF6⟩:=hz.no rfl;have HP:Hid (RM=none):=by
        show RM=none
        rw[HRM.out];exact HNO.out (by rw[hSD];rfl)
       clear hz;go_wp2;go_ret;rw[HP.out];exact⟨Sp.chain HF5.out HA5.out hF6,fun _=>rfl,fun g q=>by cases q⟩
      | some g2=>
       obtain⟨rfl,⟨⟨A7,hS7,hA7⟩,hF7⟩⟩:=hz.yes g2 rfl;obtain⟨hsm,hcs⟩:=HDR.out g2 c hSD;have hV7:=hVF g2 rfl;have HF7:Hid (Frm (fun k=>k=A.ga∨k=A.gr) w w6):=Sp.chain HF5.out HA5.out hF7;have HA7:Hid (SaS A A7):=HA5.out.trans hA7;have hR7:g2.roots.length≤16:=by rw[hsm.len];exact h16
       have hl1:1≤(Fo.look g2 b).2.length:=by rcases hcs with⟨e1,_⟩ | ⟨e1,_⟩<;>omega
       obtain⟨d7,hd7,hlk⟩:=aAD hl1;rw[hlk]at hcs hl1;obtain⟨_,t7,t72,_⟩:=hS7.cells;obtain⟨a7,cp7,_,hbA7,_,_,e17,_⟩:=hS7.v.nds.at hd7;have hbI7:(b:Int) <(A7.ns.length:Int):=by omega
       rcases hcs with⟨e1,e2,e3,P',lo',hi',e4,e5,e6,e7⟩ | ⟨e1,e2,e3,e4,H',e5,e6,e7,e8⟩
       ·have hDe:DeR w S A t key RM h (.int .i64 c) w6:=⟨⟨H1,g2,P',c,lo',hi',A7,rfl,e3,e4,e5,e6,e7,hV7,hR7,hS7,HA7.out,HRM.out.trans e2⟩,HF7.out⟩
        have HDE:=aA hDe;have h1:=HM2.out _ _ _ hDe;have hne1:((d7.2.length:Int) == 1)=false:=by rw[beq_eq_false_iff_ne];omega
        clear hz hDe e1 e2 e3 e4 e5 e6 e7 hS7 hF7;go_wp2;go_roundw
        case rel=>exact⟨h,HDE.out⟩
        case measure=>omega
       ·obtain⟨hS8,hF8⟩:=hS7.setRoot e3 c
        have hS9:Sp (w6.setCell ⟨A7.gr,t*2+1,none⟩ (.int .i64 c)) S A7 (fallF g2 t b c):=hS8.sub (fun x d hx=>(show g2.nodes x=some d from aIH (g:=g2) (t:=t) (b:=b) (c:=c) x d hx)) (by simp[fallF,setL,freeB]) rfl rfl rfl rfl;have hR9:(fallF g2 t b c).roots.length≤16:=by
         have:(fallF g2 t b c).roots.length=g2.roots.length:=(aW.fallF ..).len
         rw[this];exact hR7
        have hDe:DeR w S A t key RM h (.int .i64 c) (w6.setCell ⟨A7.gr,t*2+1,none⟩ (.int .i64 c)):=⟨⟨H',fallF g2 t b c,[],c,none,none,A7,rfl,e5,e6,fun q=>absurd rfl q,e7,e8,hV7.fallF t b c,hR9,hS9,HA7.out,HRM.out.trans e4⟩,HF7.out.trans (hF8.wide fun k _ e=>.inr (e.trans HA7.out.gr))⟩;have HDE:=aA hDe;have h1:=HM2.out _ _ _ hDe;have hne1:((d7.2.length:Int) == 1)=true:=by rw[e1];rfl
        obtain⟨_,z1'⟩:=hS7.v.root e3;have z2':=hS7.v.rts.frozen (t*2+1);have htI7:(t:Int) <(g2.roots.length:Int):=by omega
        clear hz hDe e1 e2 e3 e4 e5 e6 e7 e8 hS7 hF7 hS8 hS9 hF8;go_wp2;go_roundw
        case rel=>exact⟨h,HDE.out⟩
        case measure=>omega
     ·have hfb:((ces.length:Int) == 2)=false:=by rw[beq_eq_false_iff_ne];omega
      rw[if_pos (by omega)]at HSE;obtain⟨hsm,hcs⟩:=HDR.out g c HSE.out;have hDe:DeR w S A t key RM h (.int .i64 c) w5:=by
       rcases hcs with⟨e1,e2,e3,P',lo',hi',e4,e5,e6,e7⟩ | ⟨e1,_⟩
       ·exact⟨⟨H1,g,P',c,lo',hi',A5,rfl,e3,e4,e5,e6,e7,hV2,HRT.out,HX5.out,HA5.out,HRM.out.trans e2⟩,HF5.out⟩
       ·exfalso;rw[aE hm2]at e1;have:=HEL.out;simp only at e1;omega
      have HDE:=aA hDe;have h1:=HM2.out _ _ _ hDe;rw[hfb];clear hf2 hfb hslc hDe hcs hsm;go_wp2;go_roundw
      case rel=>exact⟨h,HDE.out⟩
      case measure=>omega
def plZ(f:fZ)(tree:Int):Int:=match atT f tree with
 | none=>-1
 | some t=>t
theorem aDY{f:fZ}{tree:Int}{t:Nat}(ht:t<f.roots.length)(h:∀x,x<t→rid f x≠tree)(he:rid f t=tree):atT f tree=some t:=by
 unfold atT;rw[List.find?_range_eq_some];exact⟨by simpa using he,by simpa using ht,fun x hx=>by have:=h x hx;simpa using this⟩
theorem aAF{f:fZ}{tree:Int}(h:∀x,x<f.roots.length→rid f x≠tree):atT f tree=none:=by
 unfold atT;rw[List.find?_eq_none];intro x hx;have:=h x (List.mem_range.1 hx);simpa using this
theorem lI{f:fZ}(w:World)(S:Nat)(A:SA)(hS:Sp w S A f)(h16:f.roots.length≤100)(tree:Int):
  Calls Tryz.prog 39 #[.pointer (some ⟨S,0,none⟩),.int .i64 tree] w fun r w'=>r=.returned (.int .i64 (plZ f tree))∧w'=w:=by
 obtain⟨_,_,s2,_⟩:=hS.cells;go_enter Tryz.func39,Tryz.ntmps39;go_wp2;go_loopw [5] (fun i wr=>∃k:Nat,k≤f.roots.length∧i=.int .i64 k∧Is2 (.bool false) (.bool false) wr w∧Hid (∀x,x<k→rid f x≠tree)) (fun i _=>f.roots.length -(intOf i).toNat)
 case atStart=>exact⟨0,by omega,rfl,⟨rfl,rfl⟩,fun x hx=>by omega⟩
 case round=>
  obtain⟨k,hk,rfl,⟨_,hwr⟩,hall⟩:=hrel;subst hwr;by_cases hlt:k<f.roots.length
  ·obtain⟨r0,_⟩:=hS.v.root hlt
   have hki:(k:Int) <(f.roots.length:Int):=by omega
   have HR:Hid (rid f k=(f.roots.getD k (0,0)).1):=rfl;generalize (f.roots.getD k (0,0)).1=x at *;cases ex:(x == tree)with
   | true=>
    have HT:Hid (plZ f tree=(k:Int)):=by
     show plZ f tree=_
     unfold plZ;rw[aDY hlt hall.out (HR.out.trans (by simpa using ex))]
    go_wp2
    go_ret
    exact⟨by rw[HT.out];rfl,rfl⟩
   | false=>
    have HA:Hid (∀z,z<k+1→rid f z≠tree):=fun z hz=>by
     by_cases e:z=k
     ·rw[e,HR.out];simpa using ex
     ·exact hall.out z (by omega)
    go_wp2
    go_roundw
    case rel=>exact⟨k+1,by omega,by go_num,⟨rfl,rfl⟩,HA.out⟩
    case measure=>simp[intOf];omega
  ·obtain rfl:k=f.roots.length:=by omega
   have HT:Hid (plZ f tree=-1):=by
    show plZ f tree=_
    unfold plZ;rw[aAF hall.out]
   go_wp2
   go_ret
   exact⟨by rw[HT.out];rfl,rfl⟩
theorem pQ(v:Value)(c:List Int)(w:World)(hv:y64.Sl w v c)(hl:c.length≤512)(h0:0<c.length):
  Calls Tryz.prog 86 #[v] w fun r w'=>r=.returned (.int .i64 (iQ c c.length))∧w'=w:=by
 obtain⟨g,o,cc,rfl,hg,_,hcell⟩:=mQ hv h0;have hple:∀k,iQ c k≤k:=by
  intro k;induction k with
  | zero=>exact nR _
  | succ k ih=>unfold iQ;split<;>omega
 go_enter Tryz.func86,Tryz.ntmps86
 go_wp2
 go_loopw [3,4] (fun n i wr=>∃k:Nat,k≤c.length∧i=.int .i64 k∧Is2 n (.int .i64 (iQ c k)) wr w) (fun _ i _=>c.length -(intOf i).toNat)
 case atStart=>exact⟨0,by omega,rfl,⟨rfl,rfl⟩⟩
 case round=>
  obtain⟨k,hk,rfl,⟨hn,hwr⟩⟩:=hrel;subst hwr;subst hn;by_cases hlt:k<c.length
  ·have x0:=hcell wr k rfl hlt
   have hki:(k:Int) <(c.length:Int):=by omega
   have HP:Hid (iQ c (k+1)=iQ c k+if 0<c.getD k 0 then 1 else 0):=rfl;have hpk:=hple k;clear hcell hple;generalize c.getD k 0=x at *;generalize iQ c k=pk at *;have hwp:IntKind.i64.wrap ((pk:Int)+1)=((pk+1:Nat):Int):=(IntWalk.i64_in _ ⟨by omega,by omega⟩).trans (by omega);by_cases hx:0<x
   ·rw[if_pos hx]at HP
    go_wp2
    go_roundw
    case rel=>exact⟨k+1,by omega,by go_num,⟨by rw[HP.out];first | rfl | go_num,rfl⟩⟩
    case measure=>simp[intOf];omega
   ·rw[if_neg hx]at HP
    go_wp2
    go_roundw
    case rel=>exact⟨k+1,by omega,by go_num,⟨by rw[HP.out];rfl,rfl⟩⟩
    case measure=>simp[intOf];omega
  ·obtain rfl:k=c.length:=by omega
   clear hcell hple;go_wp2;go_ret;exact⟨rfl,rfl⟩
structure CtS(f:fZ):Prop where
 ic:IC f
 r16:f.roots.length≤16
 ent:∀b d,f.nodes b=some d→d.2.length≤10
 com:∀i,0≤co f i∧co f i≤65535
theorem CtS.k{f:fZ}(h:CtS f):∀x,cu f x≤1000000:=h.ic.counts h.r16 h.ent
theorem qK{f:fZ}(h:CtS f)(w:World)(S:Nat)(A:SA)(hS:Sp w S A f):
  Calls Tryz.prog 91 #[.pointer (some ⟨S,0,none⟩)] w fun r w'=>r=.returned (.int .i64 (fI f.cur f.com))∧Bl w w':=by
 have h8:=h.ic.n8;have h5:=h.ic.n512;have hcl:=h.ic.len;obtain⟨_,_,_,_,_,s5,_⟩:=hS.cells;have hS':=hS.drew;have HC:Hid (Calls Tryz.prog 33 #[.pointer (some ⟨S,0,none⟩)] w.drew fun r w1=>∃a c,r=.returned (.slice a f.cur.length c)∧y64.Sl w1 (.slice a f.cur.length c) f.cur∧Bl w w1):=by
  refine(fR h.ic h.k h.ent w.drew S A hS' (by have:=h.r16;omega)).mono ?_;rintro r w1 ⟨u,rfl,hu,hb⟩;obtain⟨a,c,rfl⟩:=hu.sl.len;exact⟨a,c,rfl,hu.sl,(bQ _ w).drew.trans hb⟩
 obtain⟨gm,om,cm,hcv,_,_,_⟩:=mQ hS.v.com (by omega);have HS:=aA hS;have HB:Hid (∀x,0≤cu f x∧cu f x≤1000000):=fun x=>⟨h.ic.dom.pos x,h.k x⟩;have HM:=aA h.com;rw[hcv]at s5;have HCV:=aA hcv;have HLF:Hid (fI f.cur f.com=((frI f.cur f.com f.cur.length f.cur.length).length:Int)):=by
  show fI _ _=_
  unfold fI frI;rw[List.length_map]
 have HLC:=aA hcl;clear hcl hcv hS';go_enter Tryz.func91,Tryz.ntmps91;go_wp2;go_region_held3 (fun W=>W.cell? ⟨S,5,none⟩=some (.slice (some ⟨gm,om,none⟩) f.com.length cm)) (first | assumption | go_keep)
  ((first
   | (go_at_call 33;refine HC.out.mono ?_;rintro r w1 ⟨ca,cc,rfl,hsl,hb1⟩;have hX5:w1.cell? ⟨S,5,none⟩=some (.slice (some ⟨gm,om,none⟩) f.com.length cm):=(by rw[←HCV.out];exact(HS.out.below hb1).cells.2.2.2.2.2.1))
   | (go_at_call 84;refine(rT ca (some ⟨gm,om,none⟩) cc cm f.cur f.com w1 (hsl.nts fun i=>by have:=HB.out i;unfold cu at this;omega) ((by rw[←HCV.out];exact(HS.out.below hb1).v.com:y64.Sl w1 (.slice (some ⟨gm,om,none⟩) f.com.length cm) f.com).nts fun i=>by have:=HM.out i;unfold co at this;omega) HLC.out h5 h8).mono ?_;rintro r w2 ⟨u,rfl,hrow,hb2⟩;obtain⟨ua,uc,rfl⟩:=hrow.shape;have hX6:w2.cell? ⟨S,5,none⟩=some (.slice (some ⟨gm,om,none⟩) f.com.length cm):=(by rw[←HCV.out];exact((HS.out.below hb1).below hb2).cells.2.2.2.2.2.1))))
 have HR:Hid (Bl w w2):=hb1.trans (hb2.mono hb1.size);clear hX5 hX6;go_wp2;go_ret;exact⟨by rw[HLF.out];rfl,HR.out⟩
def pS(f:fZ):Bool:=decide (2*fJ f.cur.length≤fI f.cur f.com)
theorem pO{f:fZ}(h:CtS f)(w:World)(S:Nat)(A:SA)(hS:Sp w S A f):
  Calls Tryz.prog 70 #[.pointer (some ⟨S,0,none⟩)] w fun r w'=>r=.returned (.bool (pS f))∧Bl w w':=by
 obtain⟨s0,_⟩:=hS.cells;have h8:=h.ic.n8;have h5:=h.ic.n512;have HF:Hid (Calls Tryz.prog 91 #[.pointer (some ⟨S,0,none⟩)] w.drew fun r w'=>r=.returned (.int .i64 (fI f.cur f.com))∧Bl w w'):=(qK h w.drew S A hS.drew).mono fun r w' hw=>⟨hw.1,(bQ _ w).drew.trans hw.2⟩;have HRS:=aA fun(w':World)=>qC f.cur.length w';have hrv:0≤fJ f.cur.length∧fJ f.cur.length≤1000:=by unfold fJ;split<;>omega
 have HRO:Hid (pS f=decide (2*fJ f.cur.length≤fI f.cur f.com)):=rfl;have HS:=aA hS;generalize fJ f.cur.length=rv at *;generalize fI f.cur f.com=fc at *;have hwm:IntKind.i64.wrap (2*rv)=2*rv:=IntWalk.i64_in _ ⟨by omega,by omega⟩;go_enter Tryz.func70,Tryz.ntmps70;go_wp2;go_region_held3 (fun W=>W.cell? ⟨S,0,none⟩=some (.int .i64 f.cur.length)) (first | assumption | go_keep)
  ((first
   | (go_at_call 91;refine HF.out.mono ?_;rintro r w1 ⟨rfl,hb1⟩;have hX1:w1.cell? ⟨S,0,none⟩=some (.int .i64 f.cur.length):=(HS.out.below hb1).cells.1)
   | (go_at_call 92;refine(HRS.out _).mono ?_;rintro r w2 ⟨rfl,rfl⟩)))
 clear hX1;go_wp2;go_ret;exact⟨by rw[HRO.out];rfl,hb1⟩
