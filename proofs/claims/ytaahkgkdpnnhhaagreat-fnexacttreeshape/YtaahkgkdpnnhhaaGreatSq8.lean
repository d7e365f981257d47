import Derived.Deep.DeepCutAuto
import Derived.Test.YtaahkgkdpnnhhaaGreatSq2
set_option maxHeartbeats 9999999
set_option maxRecDepth 99999
set_option linter.all false
namespace Go.Proofs.YtaahkgkdpnnhhaaGreat
open Go.RowKit Fo
variable{key val:ByteArray}{e:Ending}{H S b t:Nat}{r:Option fZ}{A A1:SA}{w w1 w2:World}{f g:fZ}
structure Fin(f' g:fZ)(b:Nat)(d:Nd):Prop where
 sub:∀x d',g.nodes x=some d'→(setN f' b d).nodes x=some d'
 len:g.cur.length=f'.cur.length
 roots:g.roots=f'.roots
 next:g.next=f'.next
 gen:g.gen=f'.gen
 com:g.com=f'.com
theorem Sp.fin{f':fZ}(h:Sp w S A f')(hb:Bl w w1)(hq:b<f'.cur.length){x:NV}{d:Nd}(hx:NdR w1 x d)(k:Fin f' g b d):Zt w S A g (Go.Proofs.YtaahkgkdpnnhhaaGreat.set2 w1 A.ga b x):=by
 obtain⟨⟨A',h1,h2⟩,h3⟩:=h.store hb hq hx;exact⟨⟨A',h1.sub k.sub k.len k.roots k.next k.gen k.com,h2⟩,h3⟩
theorem Zt.trans(hF:Frm (fun k=>k=A.ga) w w1)(hA:SaS A A1)(h:Zt w1 S A1 g w2):Zt w S A g w2:=by
 obtain⟨⟨A2,h1,h2⟩,h3⟩:=h;rw[hA.ga]at h3;exact⟨⟨A2,h1,hA.trans h2⟩,hF.trans h3⟩
theorem ZpP.trans(hF:Frm (fun k=>k=A.ga) w w1)(hA:SaS A A1)(h:ZpP w1 S A1 r e w2):ZpP w S A r e w2:=
 ⟨fun q=>⟨(h.no q).1,by have:=(h.no q).2;rw[hA.ga]at this;exact hF.trans this⟩,fun g q=>⟨(h.yes g q).1,Zt.trans hF hA (h.yes g q).2⟩⟩
theorem ZpP.ret(h:ZpP w S A r e w2):∃v,e=.returned (.bool v):=by
 cases r with
 | none=>exact⟨_,(h.no rfl).1⟩
 | some g=>exact⟨_,(h.yes g rfl).1⟩
structure ZsP(w:World)(S:Nat)(A:SA)(f:fZ)(b i:Nat)(es:List E3)(r:Ending)(w':World):Prop where
 frm:Frm (fun k=>k=A.ga) w w'
 no:shadow f (.ent b i)=none→r=.returned (.int .i64 (-1))
 yes:∀g c,shadow f (.ent b i)=some (g,c)→r=.returned (.int .i64 c)∧∃A' f',Sp w' S A' f'∧SaS A A'∧f'.cur.length=f.cur.length∧Fin f' g b (2,es.set i (ky es i,.empty,(c:Int)))
theorem gZ(hI:IC f)(hE:∀b d,f.nodes b=some d→d.2.length≤10)(hV:VE f)(w:World)(S:Nat)(A:SA)(h:Sp w S A f)(ju:f.roots.length≤16)(b i:Nat)(es:List E3)(af:f.nodes b=some (2,es))(hi:i<es.length):
  Calls Tryz.prog 87 #[.pointer (some ⟨S,0,none⟩),.int .i64 (kd es i)] w (ZsP w S A f b i es):=by
 obtain⟨d,hd⟩:=hI.kid_live af (aP hi);refine(nQ hI hE w S A h ju (kd es i) d hd).mono ?_;intro r w' hz;rcases tK hI hV af hi hd with⟨ho,hs,he⟩ | ⟨ho,hl,hs⟩ | ⟨ho,hl,g,hs,h1,h2,h3⟩
 ·obtain⟨rfl,hb⟩:=hz.own ho
  refine⟨Frm.of_below hb,fun q=>(by rw[hs]at q;cases q),fun g c q=>?_⟩;rw[hs]at q;cases q;refine⟨rfl,A,f,h.below hb,SaS.refl _,rfl,fun x d' hx=>?_,rfl,rfl,rfl,rfl,rfl⟩;rw[he];show upd f.nodes b (some (2,es)) x=some d'
  by_cases e:x=b
  ·rw[e,aD,←af,←e];exact hx
  ·rw[aC _ _ e];exact hx
 ·obtain⟨rfl,hb⟩:=hz.no ho hl
  exact⟨Frm.of_below hb,fun _=>rfl,fun g c q=>by rw[hs]at q;cases q⟩
 ·obtain⟨rfl,hS,hF⟩:=hz.yes ho hl
  refine⟨hF,fun q=>(by rw[hs]at q;cases q),fun g' c q=>?_⟩;rw[hs]at q;cases q;exact⟨rfl,_,_,hS,SaS.setN _ _ _,rfl,h3,h2.cur,h1,h2.next,h2.gen,h2.com⟩
structure Ct1(w:World)(S:Nat)(A:SA)(f1:fZ)(es1:List E3)(s9:Value)(wx:World):Prop where
 ex:∃A1,Sp wx S A1 f1∧SaS A A1
 frm:Frm (fun k=>k=A.ga) w wx
 sl:yE.Sl wx s9 es1
theorem uG{P:List Nat}{h:Nat}{lo hi:OB}(wk:Wk f t H)(p:aN f t H P b (h+1) lo hi)(hl:loR lo key)(hh:hiR hi key)(h5:sz f.nodes b<5)(hV:VE f)(ju:f.roots.length≤16)
  (ih:∀(g:fZ) (c:Nat) (P':List Nat) (lo' am:OB),Wk g t H→aN g t H P' c h lo' am→loR lo' key→hiR am key→sz g.nodes c<5→VE g→g.roots.length≤16→∀(w:World) (S:Nat) (A:SA),Sp w S A g→Calls Tryz.prog 90 #[.pointer (some ⟨S,0,none⟩),.int .i64 c,.string key,.string val] w (ZpP w S A ((putAt h g c key val).map Prod.fst)))
  (w:World) (S:Nat) (A:SA) (hS:Sp w S A f):Calls Tryz.prog 90 #[.pointer (some ⟨S,0,none⟩),.int .i64 b,.string key,.string val] w (ZpP w S A ((putAt (h+1) f b key val).map Prod.fst)):=by
 have so:=gS;have Fm:=iT;obtain⟨es,af,qg,av⟩:=p.inner wk;have ah:es.length≤5:=wk.ent af;have d5:=wk.ic.lt af;have bz:0<es.length:=List.length_pos_iff.2 av;obtain⟨wk1,p1,_⟩:=wk.lowKey p af key hl;obtain⟨v0,v1⟩:=hV.inner wk.ic af bz;obtain⟨_,s1,_⟩:=hS.cells;obtain⟨a,c,dw,we,AV,c0,c1,ol⟩:=hS.v.nds.at af;simp only at dw c0 c1;have wd:S≠A.ga:=hS.box.type_ne hS.v.nds.arr (by decide);have D5:(b:Int) <(A.ns.length:Int):=by omega
 have YP:(0:Int) <(es.length:Int):=by omega
 have HL:=aA (aI hl hh);have zq:Hid (putAt (h+1) f b key val=match stepDown f b key with
  | none=>none
  | some (g,c)=>putAt h g c key val):=rfl
 have yn:=aA (pS af key);rw[yn.out]at zq;have HK:Hid (lowK es key=if kl key (ky es 0)=true then es.set 0 (key,(es.getD 0 e0).2)else es):=rfl;have DM:VE (setN f b (2,lowK es key)):=hV.setN b (VL.lowK (hV b _ af) key);have yq:=hS.swapped (.slice a es.length c) es 0 (key,.empty,(kd es 0:Int)) dw bz (by omega) 2 d5;obtain⟨g0,o0,cc,he,vh,aa⟩:=dW dw bz;cases he;obtain⟨x0,x1,x2⟩:=aa w 0 rfl bz;rw[v0]at x0 x1 x2;simp only[Nat.zero_mul,Nat.add_zero]at x0 x1 x2;have HQ:Hid (ky es 0=ky es 0):=rfl;have HB:Hid (kl key (ky es 0)=Op.bytesLess key.toList (ky es 0).toList):=rfl;clear aa;generalize putAt (h+1) f b key val=PA at *;have mn:=aA hS;have KY:=aA dw;go_enter Tryz.func90,Tryz.ntmps90;go_upto_if 86 with fail
 go_cut [9] (fun s9 wx=>Ct1 w S A (setN f b (2,lowK es key)) (lowK es key) s9 wx)
 case first=>
  by_cases hk:kl key (ky es 0)=true
  ·have qp:Op.bytesLess key.toList (ky es 0).toList=true:=hk
   have Np:Hid (lowK es key=es.set 0 (key,.empty,(kd es 0:Int))):=by show lowK es key=_;rw[HK.out,if_pos hk,v0]
   have Ce:Hid (Calls Tryz.prog 94 #[.slice (some ⟨g0,o0,none⟩) es.length c,.int .i64 0,.agg #[.string key,.string .empty,.int .i64 (kd es 0)]] w fun r w'=>∃u,r=.returned u∧yE.Own w.heap.size w' u (es.set 0 (key,.empty,(kd es 0:Int)))∧Bl w w'):=eP _ es 0 (key,.empty,(kd es 0:Int)) w KY.out bz (by omega);rw[qp];clear hk yq qp;go_wp2_with fail;refine Ce.out.mono ?_;rintro r w1 ⟨u,rfl,hu,ao⟩;obtain⟨x,rfl,zc,Ac⟩:=hu.nv 2;have br:=mn.out.below ao;obtain⟨k0,k1,gi,gx,jl,fz,_⟩:=br.wr d5;obtain⟨_,t1,_⟩:=br.cells;have HR:=aA (mn.out.store ao d5 Ac);have HX:Hid (yE.Sl w1 (.slice x.2.1 x.2.2.1 x.2.2.2) (es.set 0 (key,.empty,(kd es 0:Int)))):=hu.sl;clear br;go_wp2;rw[dL zc];go_meet;rw[Np.out];obtain⟨⟨A1,q1,q2⟩,q3⟩:=HR.out;exact⟨⟨A1,q1,q2⟩,q3,HX.out.frm (eF w1 A.ga b x) fun g cs hg=>hg.type_ne (mn.out.below ao).v.nds.arr (by decide)⟩
  ·have qp:Op.bytesLess key.toList (ky es 0).toList=false:=Bool.eq_false_iff.2 hk
   have Np:Hid (lowK es key=es):=by show lowK es key=_;rw[HK.out,if_neg hk]
   rw[qp];clear hk yq qp;go_wp2_with fail;go_meet;rw[Np.out];refine⟨⟨A,mn.out.sub (fun x d' hx=>?_) rfl rfl rfl rfl rfl,SaS.refl _⟩,Frm.refl _ _,KY.out⟩;have bq:upd f.nodes b (some (2,es)) x=some d':=hx;by_cases e:x=b
   ·rw[e,aD]at bq;rw[e,af];exact bq
   ·rw[aC _ _ e]at bq;exact bq
 case rest=>
  obtain⟨⟨A1,br,Cg⟩,iN,ke⟩:=hcut;have ep:(setN f b (2,lowK es key)).nodes b=some (2,lowK es key):=aD _ _ _;have d8:(lowK es key).length=es.length:=cK es key;obtain⟨_,q1,ye,lv⟩:=p1.inner wk1;rw[ep]at q1;cases q1;have NC:(setN f b (2,lowK es key)).roots.length≤16:=ju;have Ct:(setN f b (2,lowK es key)).cur.length=f.cur.length:=rfl;have Df:=fun b' d' (fy:(setN f b (2,lowK es key)).nodes b'=some d')=>(by have:=wk1.ent fy;omega:d'.2.length≤10);generalize lowK es key=es1 at *;generalize setN f b (2,es1)=f1 at *;have H0:=aA (rR ye.srt key);have ew:=eE key lv;obtain⟨v1,_⟩:=DM.inner wk1.ic ep ew;obtain⟨va,vc,rfl⟩:=ke.len;obtain⟨g1,o1,cc1,EQ,g9,uf⟩:=dW ke (by omega);cases EQ;have Bd:=vE (.slice (some ⟨g1,o1,none⟩) es1.length vc) es1 key wc ke (by omega);rw[H0.out]at Bd;have RF:es1.length≤5:=by omega
  have KW:=aA (aI d8 Ct);clear d8 Ct;generalize bK es1 key=i at *;obtain⟨x0,x1,x2⟩:=uf wc i rfl ew;rw[v1]at x0 x1 x2;have Q1:(i:Int) <(es1.length:Int):=by omega
  have yo:=aA (gZ wk1.ic Df DM wc S A1 br NC b i es1 ep ew);have Uo:=zq;have Sd:Hid (∀g c,stepDown f b key=some (g,c)→∃P' lo' am,Wk g t H∧aN g t H P' c h lo' am∧loR lo' key∧hiR am key∧sz g.nodes c<5∧aW f g):=fun g c q=>by
   obtain⟨P',lo',am,k1,k2,k3,k4,k5,_,k6⟩:=wk.stepDown p HL.out.1 HL.out.2 h5 q;exact⟨P',lo',am,k1,k2,k3,k4,k5,k6⟩
  have zi:=aA iN;have Oc:=aA Cg;clear yq v0 v1 hV HK HQ HB iN Cg uf;go_wp2_with fail;refine Bd.mono ?_;rintro r w2 ⟨rfl,rfl⟩;go_wp2_with fail;refine yo.out.mono ?_;intro r w3 hz;obtain⟨bu,uu,uv⟩:=hz;cases al:shadow f1 (.ent b i)with
  | none=>
   obtain rfl:=uu al;have HP:Hid (PA=none):=by show PA=none;rw[zq.out];rw[al]
   clear uu uv al;go_wp2;go_ret;rw[HP.out];exact⟨fun _=>⟨rfl,zi.out.trans (by have:=bu;rw[Oc.out.ga]at this;exact this)⟩,fun g q=>by cases q⟩
  | some gc=>
   obtain⟨g,c⟩:=gc;obtain⟨rfl,A3,f3,cq,BD,Au,bg⟩:=uv g c al;obtain⟨wk2,_,p3,⟨es2,m1,m2,m3,m4⟩,m5,m6,m7,_,m9⟩:=wk1.shadow_ent p1 ep ew al;have sn:=DM.shadow_ent wk1.ic ep ew al;rw[al]at zq yn;obtain⟨es',xo⟩:=eZ (es1.set i (ky es1 i,.empty,(c:Int)));rw[xo]at bg;have oa:g.nodes b=some (2,es'):=by
    have:=bg.sub b _ m1
    have e:(setN f3 b (2,es')).nodes b=some (2,es'):=aD _ _ _;rw[e]at this;rw[m1];exact this.symm
   obtain⟨⟨k,ces⟩,jd⟩:=wk2.ic.live (x:=c) (by rw[m6];omega);have au:=wk2.ent jd;have rh:=wk2.ent oa;simp only at au rh;have EC:b<f3.cur.length:=by rw[Au,KW.out.2];exact d5
   have lz:yE.Sl w3 (.slice (some ⟨g1,o1,none⟩) es1.length vc) es1:=ke.frm bu fun g cs hg=>hg.type_ne br.v.nds.arr (by decide);obtain⟨y0,y1,y2⟩:w3.cell? ⟨g1,o1+i*3,none⟩=some (.string (ky es1 i))∧w3.cell? ⟨g1,o1+i*3+1,none⟩=some (.string .empty)∧w3.cell? ⟨g1,o1+i*3+2,none⟩=some (.int .i64 (kd es1 i)):=by
    have av:g1≠A1.ga:=by
     rcases ke with⟨q,_⟩ | ⟨g',o',cap',xs,q,q1,_⟩
     ·cases q
     ·cases q;exact q1.type_ne br.v.nds.arr (by decide)
    have hw:∀k,w3.cell? ⟨g1,k,none⟩=w2.cell? ⟨g1,k,none⟩:=fun k=>by simp[World.cell?,bu.block g1 g9 av]
    exact⟨(hw _).trans x0,(hw _).trans x1,(hw _).trans x2⟩
   have H8:Hid (Calls Tryz.prog 94 #[.slice (some ⟨g1,o1,none⟩) es1.length vc,.int .i64 i,.agg #[.string (ky es1 i),.string .empty,.int .i64 c]] w3 fun r w'=>∃u,r=.returned u∧yE.Own w3.heap.size w' u es'∧Bl w3 w'):=by
    rw[←xo];exact eP _ es1 i (ky es1 i,ByteArray.empty,(c:Int)) w3 lz ew (by omega)
   have yz:¬((c:Int)<0):=by omega
   have Em:Hid (es'.length=es1.length):=by show es'.length=_;rw[←xo,List.length_set]
   have H2:Hid (Frm (fun k=>k=A.ga) w w3):=zi.out.trans (by have:=bu;rw[Oc.out.ga]at this;exact this);have LF:Hid (SaS A A3):=Oc.out.trans BD;have Az:Hid (g.roots.length≤16):=by show g.roots.length≤16;rw[m9.len];exact NC
   have KV:Hid (g.cur.length=f3.cur.length):=bg.len;clear uu uv ke br xo m1 m3 m4 m5 m7 m9 Df Bd yo bu BD Au x0 x1 x2 lz;go_wp2_with fail;refine H8.out.mono ?_;rintro r w4 ⟨u,rfl,hu,jq⟩;obtain⟨x,rfl,zc,Ac⟩:=hu.nv 2;have aw:=cq.below jq;obtain⟨k0,k1,gi,gx,jl,fz,QD⟩:=aw.wr EC;obtain⟨_,t1,_⟩:=aw.cells;obtain⟨⟨A5,cw,zt⟩,el⟩:=cq.fin jq EC Ac bg;have C5:yE.Sl (set2 w4 A3.ga b x) (.slice x.2.1 x.2.2.1 x.2.2.2) es':=hu.sl.frm (eF w4 A3.ga b x) fun g cs hg=>hg.type_ne aw.v.nds.arr (by decide);have uw:Hid (Frm (fun k=>k=A.ga) w (set2 w4 A3.ga b x)):=H2.out.trans (el.wide fun k _ e=>e.trans LF.out.ga);have GY:Hid (SaS A A5):=LF.out.trans zt;have IB:=aA cw;have sj:=dL (w:=w4) (g:=A3.ga) (q:=b) zc;obtain⟨w5,Nb⟩:=eZ (set2 w4 A3.ga b x);rw[Nb]at cw C5 uw IB sj;obtain⟨_,t5,_⟩:=cw.cells;obtain⟨ac,cpc,fv,JC,_,d0,d1,EL⟩:=cw.v.nds.at jd;simp only at fv d0 d1 EL;have Fq:(c:Int) <(A5.ns.length:Int):=by omega
   clear aw jq el zt Ac hu cq Nb cw;go_upto_if 142 with fail
   clear sj;by_cases hf5:ces.length=5
   ·have ti:((ces.length:Int) == 5)=true:=by rw[hf5];rfl
    have H5:=aA hf5;rw[ti];clear hf5 ti;have IL:=fun b' d' (fy:g.nodes b'=some d')=>(by have:=wk2.ent fy;omega:d'.2.length≤10);have HT:=aA (mQ g);have LW:=aA (mN wk2.ic (wk2.ic.counts Az.out IL) IL w5 S A5 IB.out (by have:=Az.out;omega) (-1));clear IL fv;go_wp2_with fail;refine LW.out.mono ?_;rintro r w6 ⟨rfl,kj⟩;rw[HT.out];rw[aE jd,aE oa]at zq;simp only at zq;rw[if_pos H5.out]at zq;by_cases hlw:aF g=0
    ·rw[if_pos hlw]
     rw[if_pos hlw]at zq;have HP:Hid (PA=none):=zq.out;clear hlw zq;go_wp2;go_ret;rw[HP.out];exact⟨fun _=>⟨rfl,uw.out.trans (Frm.of_below kj)⟩,fun g q=>by cases q⟩
    ·rw[if_neg hlw]
     rw[if_neg hlw]at zq;obtain⟨l1,l2,l3,l4⟩:=aR hlw;have H6:Hid (stepDown f b key=some (splitF g b es' i c k ces 3 (aF g) (ky ces 3),if kl key (ky ces 3)=true then c else aF g)):=by
      show stepDown f b key=_
      rw[yn.out,aE jd,aE oa];exact(if_pos H5.out).trans (if_neg hlw)
     have TE:PA=putAt h (splitF g b es' i c k ces 3 (aF g) (ky ces 3)) (if kl key (ky ces 3)=true then c else aF g) key val:=zq.out;have Nv:=aA TE;obtain⟨P',lo',am,k1,k2,k3,k4,k5,k6⟩:=Sd.out _ _ H6.out;have MF:VE (splitF g b es' i c k ces 3 (aF g) (ky ces 3)):=sn.splitF b (sn b _ oa) i c k (sn c _ jd) 3 (aF g) (ky ces 3);have AF:c≠aF g:=fun e=>by rw[e]at m6;omega
     have mi:b≠aF g:=fun e=>by have:=wk2.ic.cu_pos oa;rw[e]at this;omega
     have L5:(splitF g b es' i c k ces 3 (aF g) (ky ces 3)).roots.length≤16:=Az.out;have Fl:=IB.out.below kj;have Ov:=aA (sE w6 S A5 Fl c (aF g) k ces jd H5.out (wk2.ic.lt jd) l2 AF);have Ed:=C5.below kj;have pw:Fin (setN (setN g (aF g) (k,ces.drop 3)) c (k,ces.take 3)) (splitF g b es' i c k ces 3 (aF g) (ky ces 3)) b (2,insE es' (i+1) (ky ces 3,.empty,(aF g:Int))):=by
      refine⟨fun z d' hz=>?_,by simp[splitF,setN,takeAt],rfl,rfl,rfl,rfl⟩;have ry:upd (upd (upd g.nodes c (some (k,ces.take 3))) (aF g) (some (k,ces.drop 3))) b (some (2,insE es' (i+1) (ky ces 3,.empty,(aF g:Int)))) z=some d':=hz;show upd (upd (upd g.nodes (aF g) (some (k,ces.drop 3))) c (some (k,ces.take 3))) b _ z=some d'
      by_cases e1:z=b
      ·rw[e1,aD]at ry ⊢;exact ry
      ·rw[aC _ _ e1]at ry ⊢
       by_cases e2:z=c
       ·rw[e2,aC _ _ AF,aD]at ry
        rw[e2,aD];exact ry
       ·rw[aC _ _ e2]
        by_cases e3:z=aF g
        ·rw[e3,aD]at ry ⊢;exact ry
        ·rw[aC _ _ e3,aC _ _ e2]at ry
         rw[aC _ _ e3];exact ry
     have nn:(setN (setN g (aF g) (k,ces.drop 3)) c (k,ces.take 3)).nodes (aF g)=some (k,ces.drop 3):=by
      show upd (upd g.nodes (aF g) _) c _ (aF g)=_
      rw[aC _ _ (Ne.symm AF),aD]
     have Kr:(setN (setN g (aF g) (k,ces.drop 3)) c (k,ces.take 3)).cur.length=g.cur.length:=rfl;have EP:ky (ces.drop 3) 0=ky ces 3:=by unfold ky;rw[eU]
     have fe:(ces.drop 3).length=2:=by rw[List.length_drop,H5.out]
     have QI:b<g.cur.length:=wk2.ic.lt oa;generalize setN (setN g (aF g) (k,ces.drop 3)) c (k,ces.take 3)=g7 at *;generalize splitF g b es' i c k ces 3 (aF g) (ky ces 3)=gs at *;generalize ces.drop 3=dr at *;generalize ky ces 3=first at *
     generalize aF g=q at *;have je:i+1≤es'.length:=by rw[Em.out];exact ew
     clear TE zq hlw;go_wp2_with fail;refine Ov.out.mono ?_;rintro r w7 ⟨rfl,⟨⟨A7,iz,DZ⟩,Aj⟩⟩;obtain⟨_,t7,_⟩:=iz.cells;obtain⟨aq,cpq,Bw,Rd,_,e0',e1',_⟩:=iz.v.nds.at nn;simp only at Bw e0' e1';obtain⟨gq,oq,cq',MV,Bf,EM⟩:=dW Bw (by omega);cases MV;obtain⟨f0,_,_⟩:=EM w7 0 rfl (by omega);have Th:(dr.getD 0 e0).1=first:=EP
     rw[Th]at f0;simp only[Nat.zero_mul,Nat.add_zero]at f0;have Qb:(0:Int) <(dr.length:Int):=by omega
     have T2:(q:Int) <(A7.ns.length:Int):=by omega
     have Ee:yE.Sl w7 (.slice x.2.1 x.2.2.1 x.2.2.2) es':=Ed.frm Aj fun g cs hg=>hg.type_ne Fl.v.nds.arr (by decide);have I8:b<g7.cur.length:=by rw[Kr];exact QI
     obtain⟨_,_,_,_,_,_,MJ⟩:=iz.wr I8;have Du:S≠A7.ga:=iz.box.type_ne iz.v.nds.arr (by decide);obtain⟨i1,Mi⟩:=eZ (i+1);have wj:IntKind.i64.wrap ((i:Int)+1)=(i1:Int):=(IntWalk.i64_in _ ⟨by omega,by omega⟩).trans (by omega);rw[Mi]at pw je;have Ox:=aA (iz.inserted (.slice x.2.1 x.2.2.1 x.2.2.2) es' i1 (first,.empty,(q:Int)) Ee je (by omega) 2 I8);have GZ:Hid (Frm (fun k=>k=A.ga) w w7):=(uw.out.trans (Frm.of_below kj)).trans (Aj.wide fun k _ e=>e.trans GY.out.ga);have DD:Hid (SaS A A7):=GY.out.trans DZ;have Uy:=aA iz;clear Ee Bw EM Th Aj DZ Fl Ed fe Kr EP Mi;go_wp2;go_region_held3 (fun W=>W.cell? ⟨S,1,none⟩=some (.slice (some ⟨A7.ga,0,none⟩) A7.ns.length (A7.ns.length+A7.nj.length))) (first | assumption | go_keep | exact bU Du db) ((go_at_call 109;refine Ox.out.mono ?_;rintro r w8 ⟨y,rfl,DA,ze,oh,db,kk0,kk1,gi,gx,jl,fz⟩));rw[dL DA];obtain⟨⟨A9,py,Ld⟩,vz⟩:=Uy.out.fin oh I8 ze pw;have SR:Hid (Frm (fun k=>k=A.ga) w (set2 w8 A7.ga b y)):=GZ.out.trans (vz.wide fun k _ e=>e.trans DD.out.ga);have SI:Hid (SaS A A9):=DD.out.trans Ld;have N0:=aA py;generalize set2 w8 A7.ga b y=w9 at *;clear db gi gx jl fz vz Ld py ze oh;by_cases lc:kl key first=true
     ·have q1:Op.bytesLess key.toList first.toList=true:=lc
      have q2:Op.bytesLess first.toList key.toList=false:=fE (a:=key) (b:=first) lc
      have q3:(key.toList == first.toList)=false:=by
       rw[beq_eq_false_iff_ne];intro e;rw[e,oR]at q1;cases q1
      rw[if_pos lc]at Nv k2 k5;have Cb:=aA (ih gs c P' lo' am k1 k2 k3 k4 k5 MF L5 w9 S A9 N0.out);clear lc k1 k2 k3 k4 k5;go_wp2_with fail;refine Cb.out.mono ?_;intro e w6 hz;obtain⟨v,rfl⟩:=hz.ret;have HZ:Hid (ZpP w S A (PA.map Prod.fst) (.returned (.bool v)) w6):=by
       show ZpP _ _ _ _ _ _
       rw[Nv.out];exact ZpP.trans SR.out SI.out hz
      clear hz;go_wp2;go_ret;exact HZ.out
     ·have q1:Op.bytesLess key.toList first.toList=false:=Bool.eq_false_iff.2 lc
      rw[if_neg lc]at Nv k2 k5;have Cb:=aA (ih gs q P' lo' am k1 k2 k3 k4 k5 MF L5 w9 S A9 N0.out);clear k1 k2 k3 k4 k5;have np:(Op.bytesLess first.toList key.toList=true∨(key.toList == first.toList)=true):=by
       rcases kW (a:=key) (b:=first) q1 with e | e
       ·exact .inr (by rw[e];exact beq_self_eq_true _)
       ·exact .inl e
      clear lc;rcases np with q2 | q3
      case' inl=>skip
      case' inr=>
       have q2:Op.bytesLess first.toList key.toList=false:=by
        have:key.toList=first.toList:=by simpa using q3
        rw[this];exact oR _
      all_goals (
       go_wp2_with fail
       refine Cb.out.mono ?_;intro e w6 hz;obtain⟨v,rfl⟩:=hz.ret;have HZ:Hid (ZpP w S A (PA.map Prod.fst) (.returned (.bool v)) w6):=by
        show ZpP _ _ _ _ _ _
        rw[Nv.out];exact ZpP.trans SR.out SI.out hz
       clear hz;go_wp2;go_ret;exact HZ.out)
   ·have ti:((ces.length:Int) == 5)=false:=by rw[beq_eq_false_iff_ne];omega
    have H6:Hid (stepDown f b key=some (g,c)):=by
     show stepDown f b key=_
     rw[yn.out,aE jd];exact if_neg hf5
    rw[aE jd]at zq;simp only at zq;rw[if_neg hf5]at zq;obtain⟨P',lo',am,k1,k2,k3,k4,k5,_⟩:=Sd.out g c H6.out;have Cb:=aA (ih g c P' lo' am k1 k2 k3 k4 k5 sn Az.out w5 S A5 IB.out);rw[ti];clear hf5 ti fv k1 k2 k3 k4 k5;go_wp2_with fail;refine Cb.out.mono ?_;intro e w6 hz;obtain⟨v,rfl⟩:=hz.ret;have HZ:Hid (ZpP w S A (PA.map Prod.fst) (.returned (.bool v)) w6):=by
     show ZpP _ _ _ _ _ _
     rw[zq.out];exact ZpP.trans uw.out GY.out hz
    clear hz;go_wp2;go_ret;exact HZ.out
theorem kX:∀(h:Nat) (f:fZ) (b:Nat) (P:List Nat) (lo hi:OB),Wk f t H→aN f t H P b h lo hi→loR lo key→hiR hi key→sz f.nodes b<5→VE f→f.roots.length≤16→∀(w:World) (S:Nat) (A:SA),Sp w S A f→
  Calls Tryz.prog 90 #[.pointer (some ⟨S,0,none⟩),.int .i64 b,.string key,.string val] w (ZpP w S A ((putAt h f b key val).map Prod.fst))
 | 0,f,b,P,lo,hi,wk,p,hl,hh,h5,hV,ju,w,S,A,hS=>by
  obtain⟨es,af,hn,hc⟩:=p.leaf wk;have ah:=wk.ent af;refine(wT w S A hS b es key val af hn.srt hc (by simp only at ah;omega) (wk.ic.lt af)).mono ?_;rintro e w' ⟨rfl,hz⟩;have hp:(putAt 0 f b key val).map Prod.fst=some (setN f b (1,putE es key val)):=by unfold putAt;rw[aE af];rfl
  rw[hp];exact⟨fun q=>(by cases q),fun g q=>(by cases q;exact⟨rfl,hz⟩)⟩
 | h+1,f,b,P,lo,hi,wk,p,hl,hh,h5,hV,ju,w,S,A,hS=>
  uG wk p hl hh h5 hV ju (fun g c P' lo' am k1 k2 k3 k4 k5 k6 k7=>kX h g c P' lo' am k1 k2 k3 k4 k5 k6 k7) w S A hS
theorem aLV(l:List (Int×Int))(t:Nat)(q:Int)(h:t<l.length):(yT.row l).setIfInBounds (t*2+1) (.int .i64 q)=yT.row (l.set t ((l.getD t (0,0)).1,q)):=by
 unfold Ely.row;rw[List.setIfInBounds_toArray];congr 1;induction l generalizing t with
 | nil=>simp at h
 | cons a l ih=>
  cases t with
  | zero=>rfl
  | succ t=>
   simp only[List.flatMap_cons,List.set_cons_succ];have e:yT.cell a=[.int .i64 a.1,.int .i64 a.2]:=rfl;rw[e];have e1:(t+1)*2+1=t*2+1+1+1:=by omega
   rw[e1];show [_,_]++(l.flatMap yT.cell).set (t*2+1) _=_
   rw[ih t (by simpa using h)];rfl
theorem Sp.setRoot(h:Sp w S A f)(ht:t<f.roots.length)(q:Nat):Sp (w.setCell ⟨A.gr,t*2+1,none⟩ (.int .i64 q)) S A (setL f (.root t) q)∧Frm (fun k=>k=A.gr) w (w.setCell ⟨A.gr,t*2+1,none⟩ (.int .i64 q)):=by
 have hF:Frm (fun k=>k=A.gr) w (w.setCell ⟨A.gr,t*2+1,none⟩ (.int .i64 q)):=Frm.set (S:=fun k=>k=A.gr) w (p:=⟨A.gr,t*2+1,none⟩) rfl _;have hg:=h.v.rts;have hl:(setL f (.root t) q).roots.length=f.roots.length:=by simp[setL]
 refine⟨⟨?_,h.v.nds.frm hF (fun g cs k=>k.type_ne hg (by decide)) (h.v.nds.arr.type_ne hg (by decide)),h.v.ln,?_,by rw[hl];exact h.v.rs,h.v.com.frm hF fun g cs k=>k.type_ne hg (by decide)⟩,hF⟩
 ·have:=h.box.frm hF (h.box.type_ne hg (by decide))
  have e:aK A (setL f (.root t) q)=aK A f:=by unfold aK;rw[hl];rfl
  rw[e];exact this
 ·have:=hg.set (t*2+1) (.int .i64 q)
  rw[aLV _ _ _ (by simp;omega),List.set_append_left _ _ ht]at this;have e:(f.roots++A.rj).getD t (0,0)=f.roots.getD t (0,0):=by rw[cX,if_pos ht]
  rw[e]at this;exact this
structure ZrP(w:World)(S:Nat)(A:SA)(f:fZ)(t:Nat)(r:Ending)(w':World):Prop where
 frm:Frm (fun k=>k=A.ga) w w'
 no:shadow f (.root t)=none→r=.returned (.int .i64 (-1))
 yes:∀g c,shadow f (.root t)=some (g,c)→r=.returned (.int .i64 c)∧∃A' f',Sp w' S A' f'∧SaS A A'∧f'.roots=f.roots∧g.roots=(setL f' (.root t) c).roots∧(∀x d,g.nodes x=some d→f'.nodes x=some d)∧g.cur.length=f'.cur.length∧g.next=f'.next∧g.gen=f'.gen∧g.com=f'.com
theorem lY(hI:IC f)(hE:∀b d,f.nodes b=some d→d.2.length≤10)(w:World)(S:Nat)(A:SA)(h:Sp w S A f)(ju:f.roots.length≤16)(t:Nat)(ht:t<f.roots.length):
  Calls Tryz.prog 87 #[.pointer (some ⟨S,0,none⟩),.int .i64 (aB f t)] w (ZrP w S A f t):=by
 obtain⟨d,hd⟩:=hI.root_live (aO ht);refine(nQ hI hE w S A h ju (aB f t) d hd).mono ?_;intro r w' hz;rcases qM hI ht hd with⟨ho,hs,he⟩ | ⟨ho,hl,hs⟩ | ⟨ho,hl,g,hs,h1,h2,h3⟩
 ·obtain⟨rfl,hb⟩:=hz.own ho
  refine⟨Frm.of_below hb,fun q=>(by rw[hs]at q;cases q),fun g c q=>?_⟩;rw[hs]at q;cases q;exact⟨rfl,A,f,h.below hb,SaS.refl _,rfl,he.symm,fun _ _ q=>q,rfl,rfl,rfl,rfl⟩
 ·obtain⟨rfl,hb⟩:=hz.no ho hl
  exact⟨Frm.of_below hb,fun _=>rfl,fun g c q=>(by rw[hs]at q;cases q)⟩
 ·obtain⟨rfl,hS,hF⟩:=hz.yes ho hl
  refine⟨hF,fun q=>(by rw[hs]at q;cases q),fun g' c q=>?_⟩;rw[hs]at q;cases q;exact⟨rfl,_,_,hS,SaS.setN _ _ _,rfl,h1,h3,h2.cur,h2.next,h2.gen,h2.com⟩
structure ZqP(w:World)(S:Nat)(A:SA)(r:Option fZ)(e:Ending)(w':World):Prop where
 frm:Frm (fun k=>k=A.ga∨k=A.gr) w w'
 no:r=none→e=.returned (.bool false)
 yes:∀g,r=some g→e=.returned (.bool true)∧∃A',Sp w' S A' g∧SaS A A'
theorem ZpP.frm(h:ZpP w S A r e w2):Frm (fun k=>k=A.ga) w w2:=by
 cases r with
 | none=>exact(h.no rfl).2
 | some g=>exact(h.yes g rfl).2.frm
theorem ZpP.toQ(hF:Frm (fun k=>k=A.ga∨k=A.gr) w w1)(hA:SaS A A1)(h:ZpP w1 S A1 r e w2):ZqP w S A r e w2:=by
 refine⟨hF.trans (h.frm.wide fun k _ e=>.inl (e.trans hA.ga)),fun q=>(h.no q).1,fun g q=>?_⟩;obtain⟨h1,⟨A2,h2,h3⟩,_⟩:=h.yes g q;exact⟨h1,A2,h2,hA.trans h3⟩
theorem aKW(w:World)(a b:E3){g:Nat}(hg:g=w.heap.size):yE.Sl (w.alloc (.cells #[.string a.1,.string a.2.1,.int .i64 a.2.2,.string b.1,.string b.2.1,.int .i64 b.2.2] 110)) (.slice (some ⟨g,0,none⟩) 2 2) [a,b]:=by
 subst hg;exact .inr ⟨w.heap.size,0,2,[a,b],by simp,IsC.new _ _ _,by simp,by simp⟩
theorem aEB(wk:Wk f t H)(hV:VE f)(ju:f.roots.length≤16)(w:World)(S:Nat)(A:SA)(hS:Sp w S A f):
  Calls Tryz.prog 69 #[.pointer (some ⟨S,0,none⟩),.int .i64 t,.string key,.string val] w (ZqP w S A ((put f t H key val).map Prod.fst)):=by
 have so:=gS;have Fm:=iT;have ht:=wk.tl;have hE:=fun b' d' (fy:f.nodes b'=some d')=>(by have:=wk.ent fy;omega:d'.2.length≤10);obtain⟨_,s1,s2,_⟩:=hS.cells;obtain⟨r0,r1⟩:=hS.v.root ht;have h0:0≤(f.roots.getD t (0,0)).2:=(wk.ic.rb _ (aO ht)).1;have fk:(f.roots.getD t (0,0)).2=(aB f t:Int):=by unfold aB;omega
 rw[fk]at r1;have Rv:(t:Int) <(f.roots.length:Int):=by omega
 have yo:=aA (lY wk.ic hE w S A hS ju t ht);have sa:Hid (put f t H key val=match shadow f (.root t)with
  | none=>none
  | some (g,r)=>if(Fo.look g r).2.length=5 then match bM g t r with
   | none=>none
   | some (k,top)=>putAt (H+1) k top key val
   else putAt H g r key val):=rfl
 generalize put f t H key val=PU at *;clear hE fk h0 r0;go_enter Tryz.func69,Tryz.ntmps69;go_wp2_with fail;refine yo.out.mono ?_;intro r w1 hz;obtain⟨iN,uu,uv⟩:=hz;cases al:shadow f (.root t)with
 | none=>
  obtain rfl:=uu al;have HP:Hid (PU=none):=by show PU=none;rw[sa.out];rw[al]
  clear uu uv al;go_wp2;go_ret;rw[HP.out];exact⟨iN.wide fun _ _ e=>.inl e,fun _=>rfl,fun g q=>by cases q⟩
 | some gc=>
  obtain⟨g,r⟩:=gc;obtain⟨rfl,A1,f1,br,Cg,yf,pj,nm,C1,DO,Mz,Bj⟩:=uv g r al;obtain⟨wk1,p1,a1,a2,a3,a4,a5,a6⟩:=wk.shadow_root al;have Ki:=hV.shadow_root al;rw[al]at sa;simp only at sa;have AZ:t<f1.roots.length:=by rw[yf];exact ht
  obtain⟨ax,du⟩:=br.setRoot AZ r;have cq:Sp (w1.setCell ⟨A1.gr,t*2+1,none⟩ (.int .i64 r)) S A1 g:=ax.sub nm C1 pj DO Mz Bj;obtain⟨_,t1,t2,_⟩:=br.cells;obtain⟨_,z1⟩:=br.v.root AZ;have z2:=br.v.rts.frozen (t*2+1);have bu:Frm (fun k=>k=A.ga∨k=A.gr) w (w1.setCell ⟨A1.gr,t*2+1,none⟩ (.int .i64 r)):=(iN.wide fun _ _ e=>.inl e).trans (du.wide fun _ _ e=>.inr (e.trans Cg.gr));obtain⟨w2,bw⟩:=eZ (w1.setCell ⟨A1.gr,t*2+1,none⟩ (.int .i64 r));rw[bw]at cq bu;obtain⟨⟨k,es⟩,hd⟩:=wk1.ic.live (x:=r) (by rw[a3];omega);have au:=wk1.ent hd;simp only at au;obtain⟨_,u1,u2,_⟩:=cq.cells;obtain⟨ac,cpc,fv,JC,_,d0,d1,EL⟩:=cq.v.nds.at hd;simp only at fv d0 d1 EL;have YU:(r:Int) <(A1.ns.length:Int):=by omega
  have Ru:(t:Int) <(f1.roots.length:Int):=by omega
  have KE:¬((r:Int)<0):=by omega
  have Az:Hid (g.roots.length≤16):=by show g.roots.length≤16;rw[a6.len];exact ju
  have HX:=aA cq;have HF:=aA bu;have HA:=aA Cg;rw[aE hd]at sa;simp only at sa;clear uu uv al iN du bu br ax cq yf pj nm C1 DO Mz Bj Cg yo a6;go_upto_if 43 with fail
  clear bw;by_cases hf5:es.length=5
  ·have ti:((es.length:Int) == 5)=true:=by rw[hf5];rfl
   rw[ti];rw[if_pos hf5]at sa;have H5:=aA hf5;clear hf5 ti;have IL:=fun b' d' (fy:g.nodes b'=some d')=>(by have:=wk1.ent fy;omega:d'.2.length≤10);have S4:=wk1.ic.counts Az.out IL;have HT:=aA (mQ g);have LW:=aA fun(w':World) (hb:Bl w2 w') (x:Int)=>mN wk1.ic S4 IL w' S A1 (HX.out.below hb) (by have:=Az.out;omega) x;clear IL fv S4;have LX:=aA (LW.out w2 (bQ _ _) (-1));go_wp2_with fail;refine LX.out.mono ?_;rintro r2 w3 ⟨rfl,ce⟩;rw[HT.out];unfold bM at sa;rw[aE hd]at sa;simp only at sa;by_cases pf:aF g=0
   ·rw[if_pos pf]
    rw[if_pos pf]at sa;have HP:Hid (PU=none):=sa.out;clear pf sa;go_wp2;go_ret;rw[HP.out];exact⟨HF.out.trans (Frm.of_below ce),fun _=>rfl,fun g q=>by cases q⟩
   ·rw[if_neg pf]
    rw[if_neg pf]at sa;obtain⟨l1,l2,l3,l4⟩:=aR pf;have FP:=aA (aBQ (f:=g) (g:=setN g r (k,es.take 3)) (d:=(k,es.drop 3)) rfl rfl l2);have H9:=aA (LW.out w3 ce (aF g));generalize hTp:aF (takeAt (setN g r (k,es.take 3)) (aF g) (k,es.drop 3))=tp at *;have Ii:=aA hTp;clear hTp;obtain⟨q,hq⟩:=eZ (aF g);rw[hq]at FP H9;have ak:¬((q:Int)<0):=by omega
    have HQ:=aA hq;rw[hq];clear hq;go_wp2_with fail;refine H9.out.mono ?_;rintro r3 w4 ⟨rfl,jq⟩;rw[FP.out];by_cases d8:tp=0
    ·rw[if_pos d8]
     rw[if_pos d8]at sa;have HP:Hid (PU=none):=sa.out;clear d8 sa;go_wp2;go_ret;rw[HP.out];exact⟨(HF.out.trans (Frm.of_below ce)).trans (Frm.of_below jq),fun _=>rfl,fun g q=>by cases q⟩
    ·rw[if_neg d8]
     rw[if_neg d8,HQ.out]at sa;have HP:Hid (PU=putAt (H+1) (growF g t r k es 3 q tp (ky es 0) (ky es 3)) tp key val):=sa.out;rw[HQ.out]at l1 l2 l3 l4;obtain⟨m1,m2,m3,m4⟩:=aR (f:=takeAt (setN g r (k,es.take 3)) (aF g) (k,es.drop 3)) (by rw[Ii.out];exact d8);rw[Ii.out]at m1 m2 m3;rw[HQ.out]at m2 m3;have nk:∀x,cu (takeAt (setN g r (k,es.take 3)) q (k,es.drop 3)) x=if q=x then 1 else cu g x:=fun x=>dT (f:=setN g r (k,es.take 3)) (k,es.drop 3) l2 x;rw[nk]at m3;have su:tp≠q:=fun e=>by rw[if_pos e.symm]at m3;omega
     rw[if_neg (Ne.symm su)]at m3;have m2':tp<g.cur.length:=by simpa [takeAt,setN] using m2
     subst a1;obtain⟨wk2,p2,_,_,b3⟩:=wk1.grow a3 hd (m:=3) (by omega) (by have:=H5.out;omega) l1 l2 l3 m1 m2' m3 su;have MF:=Ki.growF t (aB g t) k (Ki _ _ hd) 3 q tp (ky es 0) (ky es 3);have KJ:aB g t≠q:=fun e=>by rw[e]at a3;omega
     have er:aB g t≠tp:=fun e=>by rw[e]at a3;omega
     have bd:sz (growF g t (aB g t) k es 3 q tp (ky es 0) (ky es 3)).nodes tp<5:=by unfold sz;rw[b3];simp
     have L5:(growF g t (aB g t) k es 3 q tp (ky es 0) (ky es 3)).roots.length≤16:=by
      have:(growF g t (aB g t) k es 3 q tp (ky es 0) (ky es 3)).roots.length=g.roots.length:=(aW.growF ..).len
      rw[this];exact Az.out
     have CM:=(HX.out.below ce).below jq;have Ov:=aA (sE w4 S A1 CM (aB g t) q k es hd H5.out (wk1.ic.lt hd) l2 KJ);have fw:t<g.roots.length:=wk1.tl;have uy:Hid (∀(A':SA) (w':World) (x:NV),Sp w' S A' (setN (setN g q (k,es.drop 3)) (aB g t) (k,es.take 3))→NdR w' x (2,[(ky es 0,.empty,(aB g t:Int)),(ky es 3,.empty,(q:Int))])→Sp ((set2 w' A'.ga tp x).setCell ⟨A'.gr,t*2+1,none⟩ (.int .i64 tp)) S (A'.setN tp x) (growF g t (aB g t) k es 3 q tp (ky es 0) (ky es 3))∧Frm (fun k=>k=A'.ga∨k=A'.gr) w' ((set2 w' A'.ga tp x).setCell ⟨A'.gr,t*2+1,none⟩ (.int .i64 tp))):=fun A' w' x kw hx=>by
      have h1:=kw.set2 (q:=tp) m2' hx;obtain⟨h2,h3⟩:=h1.setRoot (t:=t) fw tp;refine⟨h2.sub (fun z d' hz=>?_) (by simp[growF,setL,takeAt,setN]) rfl rfl rfl rfl,((eF w' A'.ga tp x).wide fun _ _ e=>.inl e).trans (h3.wide fun _ _ e=>.inr e)⟩;have ry:upd (upd (upd g.nodes (aB g t) (some (k,es.take 3))) q (some (k,es.drop 3))) tp (some (2,[(ky es 0,.empty,(aB g t:Int)),(ky es 3,.empty,(q:Int))])) z=some d':=hz;show upd (upd (upd g.nodes q (some (k,es.drop 3))) (aB g t) (some (k,es.take 3))) tp _ z=some d'
      by_cases e1:z=tp
      ·rw[e1,aD]at ry ⊢;exact ry
      ·rw[aC _ _ e1]at ry ⊢
       by_cases e2:z=aB g t
       ·rw[e2,aC _ _ KJ,aD]at ry
        rw[e2,aD];exact ry
       ·rw[aC _ _ e2]
        by_cases e3:z=q
        ·rw[e3,aD]at ry ⊢;exact ry
        ·rw[aC _ _ e3,aC _ _ e2]at ry
         rw[aC _ _ e3];exact ry
     have nn:(setN (setN g q (k,es.drop 3)) (aB g t) (k,es.take 3)).nodes q=some (k,es.drop 3):=by
      show upd (upd g.nodes q _) (aB g t) _ q=_
      rw[aC _ _ (Ne.symm KJ),aD]
     have za:(setN (setN g q (k,es.drop 3)) (aB g t) (k,es.take 3)).nodes (aB g t)=some (k,es.take 3):=aD _ _ _;have Kr:(setN (setN g q (k,es.drop 3)) (aB g t) (k,es.take 3)).cur.length=g.cur.length:=rfl;have NB:(setN (setN g q (k,es.drop 3)) (aB g t) (k,es.take 3)).roots=g.roots:=rfl;have EP:((es.drop 3).getD 0 e0).1=ky es 3:=by rw[eU];rfl
     have NQ:((es.take 3).getD 0 e0).1=ky es 0:=by rw[fR _ _ _ (by omega)];rfl
     have fe:0 <(es.drop 3).length:=by rw[List.length_drop,H5.out];omega
     have KR:0 <(es.take 3).length:=by rw[List.length_take,H5.out];omega
     have Cb:=aA fun(w':World) (A':SA) (kw:Sp w' S A' (growF g t (aB g t) k es 3 q tp (ky es 0) (ky es 3)))=>kX (key:=key) (val:=val) (H+1) _ tp [] none none wk2 p2 trivial trivial bd MF L5 w' S A' kw;generalize setN (setN g q (k,es.drop 3)) (aB g t) (k,es.take 3)=g7 at *;generalize growF g t (aB g t) k es 3 q tp (ky es 0) (ky es 3)=gs at *;generalize es.drop 3=dr at *;generalize es.take 3=tk at *;generalize ky es 0=f0 at *;generalize ky es 3=f3 at *;generalize aB g t=r at *;clear sa d8 Ii b3 wk2 p2 bd MF L5 FP HT LW LX H9;go_wp2_with fail;refine Ov.out.mono ?_;rintro rr w7 ⟨rfl,⟨⟨A7,iz,DZ⟩,Aj⟩⟩;obtain⟨_,t7,t8,_⟩:=iz.cells;obtain⟨aq,cpq,Bw,Rd,_,_,e1',_⟩:=iz.v.nds.at nn;obtain⟨ar,cpr,KP,YT,_,_,e2',_⟩:=iz.v.nds.at za;simp only at Bw e1' KP e2';obtain⟨gq,oq,cq',MV,Bf,EM⟩:=dW Bw fe;cases MV;obtain⟨gr',or',cr',WF,ET,MS⟩:=dW KP KR;cases WF;obtain⟨y0,_,_⟩:=EM w7 0 rfl fe;obtain⟨x0,_,_⟩:=MS w7 0 rfl KR;rw[EP]at y0;rw[NQ]at x0;simp only[Nat.zero_mul,Nat.add_zero]at x0 y0;have Qb:(0:Int) <(dr.length:Int):=by omega
     have XQ:(0:Int) <(tk.length:Int):=by omega
     have T2:(q:Int) <(A7.ns.length:Int):=by omega
     have W0:(r:Int) <(A7.ns.length:Int):=by omega
     have GM:tp<g7.cur.length:=by rw[Kr];exact m2'
     have XR:(t:Int) <(g7.roots.length:Int):=by rw[NB];omega
     have Du:S≠A7.ga:=iz.box.type_ne iz.v.nds.arr (by decide);obtain⟨B,hB⟩:=eZ (w7.heap.size);obtain⟨w8,GR⟩:=eZ (w7.alloc (.cells #[.string f0,.string {data:=#[]},.int .i64 r] 110));have oh:=bAl GR;have NH:w8.heap.size=B+1:=by rw[←GR,←hB];simp
     obtain⟨B2,PN⟩:=eZ (w8.heap.size);obtain⟨w9,Hl⟩:=eZ (w8.alloc (.cells #[.string f3,.string {data:=#[]},.int .i64 q] 110));have fu:=bAl Hl;have Rm:w9.heap.size=B+2:=by rw[←Hl];simp;omega
     obtain⟨B3,PP⟩:=eZ (w9.heap.size);have d9:=iNw GR hB;have FQ:=d9.of (fu.block _ d9.lt);have cx:=iNw Hl PN;have Iy:=oh.trans (fu.mono oh.size);have TW:=iz.below oh;have P9:=iz.below Iy;obtain⟨_,t78,_⟩:=TW.cells;obtain⟨_,t79,t89,_⟩:=P9.cells;have e18:w8.cell? ⟨A7.ga,q*2+1,none⟩=some (.slice (some ⟨gq,oq,none⟩) dr.length cpq):=(oh.cell (p:=⟨A7.ga,_,none⟩) iz.v.nds.arr.lt).trans e1';have y08:w8.cell? ⟨gq,oq,none⟩=some (.string f3):=(oh.cell (p:=⟨gq,_,none⟩) Bf).trans y0;have c0:w9.cell? ⟨B,0,none⟩=some (.string f0):=FQ.c rfl;have c1:w9.cell? ⟨B,1,none⟩=some (.string {data:=#[]}):=FQ.c rfl;have c2:w9.cell? ⟨B,2,none⟩=some (.int .i64 r):=FQ.c rfl;have c3:w9.cell? ⟨B2,0,none⟩=some (.string f3):=cx.c rfl;have c4:w9.cell? ⟨B2,1,none⟩=some (.string {data:=#[]}):=cx.c rfl;have c5:w9.cell? ⟨B2,2,none⟩=some (.int .i64 q):=cx.c rfl;have Om:=aA fun(w':World) (x:NV) (hb:Bl w7 w') (hx:NdR w' x (2,[(f0,.empty,(r:Int)),(f3,.empty,(q:Int))]))=>uy.out A7 w' x (iz.below hb) hx;have GZ:Hid (Frm (fun k=>k=A.ga∨k=A.gr) w w7):=(((HF.out.trans (Frm.of_below ce)).trans (Frm.of_below jq)).trans (Aj.wide fun k _ e=>.inl (e.trans HA.out.ga)));have DD:Hid (SaS A A7):=HA.out.trans DZ;have LH:=aA Iy;have N0:=aA P9;have kf:=aA (aI NH Rm);have II:B≠A7.ga:=by have:=iz.v.nds.arr.lt;omega
     have Dc:B2≠A7.ga:=by have:=iz.v.nds.arr.lt;omega
     have SZ:=aA fun(w':World) (hb:Bl w7 w')=>(iz.below hb).cells.2.2.1;clear Bw KP EM MS Aj DZ CM fe KR Kr EP NQ NB TW P9 d9 FQ cx oh fu Iy uy NH Rm;have BR:=N0.out.below ((bQ w9.heap.size w9).alloc (nR _) (.cells #[.string f0,.string {data:=#[]},.int .i64 r,.string f3,.string {data:=#[]},.int .i64 q] 110));obtain⟨k0,k1,gi,gx,jl,fz,XT⟩:=BR.wr GM;have If:=aKW w9 (f0,.empty,(r:Int)) (f3,.empty,(q:Int)) rfl;have CN:Bl w7 (w9.alloc (.cells #[.string f0,.string {data:=#[]},.int .i64 r,.string f3,.string {data:=#[]},.int .i64 q] 110)):=LH.out.alloc LH.out.size _;rw[PP]at If;obtain⟨w10,KS⟩:=eZ (w9.alloc (.cells #[.string f0,.string {data:=#[]},.int .i64 r,.string f3,.string {data:=#[]},.int .i64 q] 110));have MA:yE.Sl w10 (.slice (some ⟨B3,0,none⟩) 2 2) [(f0,.empty,(r:Int)),(f3,.empty,(q:Int))]:=by rw[←KS];exact If
     rw[KS]at gi gx jl fz CN BR;have zy:NdR w10 ((2:Int),some (⟨B3,0,none⟩:Addr),2,2) (2,[(f0,.empty,(r:Int)),(f3,.empty,(q:Int))]):=⟨rfl,MA,nR _⟩;obtain⟨MG,Lk⟩:=Om.out w10 _ CN zy;have PF:=aA MG;have Oj:Hid (Frm (fun k=>k=A.ga∨k=A.gr) w ((set2 w10 A7.ga tp (2,some ⟨B3,0,none⟩,2,2)).setCell ⟨A7.gr,t*2+1,none⟩ (.int .i64 tp))):=(GZ.out.trans (Frm.of_below CN)).trans (Lk.wide fun k _ e=>e.elim (fun e=>.inl (e.trans DD.out.ga)) fun e=>.inr (e.trans DD.out.gr));have v2:(set2 w10 A7.ga tp (2,some ⟨B3,0,none⟩,2,2)).drew.cell? ⟨S,2,none⟩=some (.slice (some ⟨A7.gr,0,none⟩) g7.roots.length (g7.roots.length+A7.rj.length)):=(BR.set2 GM zy).drew.cells.2.2.1;have v3:(set2 w10 A7.ga tp (2,some ⟨B3,0,none⟩,2,2)).drew.cell? ⟨A7.gr,t*2+1,none⟩=some (.int .i64 (g7.roots.getD t (0,0)).2):=((BR.set2 GM zy).drew.v.root (t:=t) (show t<g7.roots.length by omega)).2;have v4:(set2 w10 A7.ga tp (2,some ⟨B3,0,none⟩,2,2)).drew.frozen? ⟨A7.gr,t*2+1,none⟩=false:=(BR.set2 GM zy).drew.v.rts.frozen (t*2+1);have Rk:(w10.setCell ⟨A7.ga,tp*2,none⟩ (.int .i64 2)).setCell ⟨A7.ga,tp*2+1,none⟩ (.slice (some ⟨B3,0,none⟩) 2 2)=set2 w10 A7.ga tp (2,some ⟨B3,0,none⟩,2,2):=rfl;have ue:=bAl KS;have In:w10.drew.cell? ⟨S,1,none⟩=some (.slice (some ⟨A7.ga,0,none⟩) A7.ns.length (A7.ns.length+A7.nj.length)):=BR.drew.cells.2.1;have Js:B<w9.heap.size∧B2<w9.heap.size:=by have:=kf.out;omega
     have Io:w10.drew.cell? ⟨B,0,none⟩=some (.string f0):=(ue.cell (p:=⟨B,_,none⟩) Js.1).trans c0;have Ip:w10.drew.cell? ⟨B,1,none⟩=some (.string {data:=#[]}):=(ue.cell (p:=⟨B,_,none⟩) Js.1).trans c1;have Iq:w10.drew.cell? ⟨B,2,none⟩=some (.int .i64 r):=(ue.cell (p:=⟨B,_,none⟩) Js.1).trans c2;have Ir:w10.drew.cell? ⟨B2,0,none⟩=some (.string f3):=(ue.cell (p:=⟨B2,_,none⟩) Js.2).trans c3;have It:w10.drew.cell? ⟨B2,1,none⟩=some (.string {data:=#[]}):=(ue.cell (p:=⟨B2,_,none⟩) Js.2).trans c4;have Iu:w10.drew.cell? ⟨B2,2,none⟩=some (.int .i64 q):=(ue.cell (p:=⟨B2,_,none⟩) Js.2).trans c5;have Uz:=aA (aI In (aI Io (aI Ip (aI Iq (aI Ir (aI It Iu))))));have U0:Hid (∀v0 v1,((w10.drew.setCell ⟨A7.ga,tp*2,none⟩ v0).setCell ⟨A7.ga,tp*2+1,none⟩ v1).drew.cell? ⟨S,1,none⟩=some (.slice (some ⟨A7.ga,0,none⟩) A7.ns.length (A7.ns.length+A7.nj.length))∧((w10.drew.setCell ⟨A7.ga,tp*2,none⟩ v0).setCell ⟨A7.ga,tp*2+1,none⟩ v1).drew.cell? ⟨B,0,none⟩=some (.string f0)∧((w10.drew.setCell ⟨A7.ga,tp*2,none⟩ v0).setCell ⟨A7.ga,tp*2+1,none⟩ v1).drew.cell? ⟨B,1,none⟩=some (.string {data:=#[]})∧((w10.drew.setCell ⟨A7.ga,tp*2,none⟩ v0).setCell ⟨A7.ga,tp*2+1,none⟩ v1).drew.cell? ⟨B,2,none⟩=some (.int .i64 r)∧((w10.drew.setCell ⟨A7.ga,tp*2,none⟩ v0).setCell ⟨A7.ga,tp*2+1,none⟩ v1).drew.cell? ⟨B2,0,none⟩=some (.string f3)∧((w10.drew.setCell ⟨A7.ga,tp*2,none⟩ v0).setCell ⟨A7.ga,tp*2+1,none⟩ v1).drew.cell? ⟨B2,1,none⟩=some (.string {data:=#[]})∧((w10.drew.setCell ⟨A7.ga,tp*2,none⟩ v0).setCell ⟨A7.ga,tp*2+1,none⟩ v1).drew.cell? ⟨B2,2,none⟩=some (.int .i64 q)):=fun v0 v1=>⟨bU Du In,bU II Io,bU II Ip,bU II Iq,bU Dc Ir,bU Dc It,bU Dc Iu⟩;clear BR MG Lk zy MA If CN In Io Ip Iq Ir It Iu Js ue;go_wp2_with fail;go_region_held3 (fun W=>W.cell? ⟨S,1,none⟩=some (.slice (some ⟨A7.ga,0,none⟩) A7.ns.length (A7.ns.length+A7.nj.length))∧W.cell? ⟨B,0,none⟩=some (.string f0)∧W.cell? ⟨B,1,none⟩=some (.string {data:=#[]})∧W.cell? ⟨B,2,none⟩=some (.int .i64 r)∧W.cell? ⟨B2,0,none⟩=some (.string f3)∧W.cell? ⟨B2,1,none⟩=some (.string {data:=#[]})∧W.cell? ⟨B2,2,none⟩=some (.int .i64 q)) (first | exact Uz.out | exact U0.out _ _ | assumption | go_keep) ((fail));have TK:Sp ((set2 w10 A7.ga tp (2,some ⟨B3,0,none⟩,2,2)).drew.setCell ⟨A7.gr,t*2+1,none⟩ (.int .i64 tp)) S (A7.setN tp (2,some ⟨B3,0,none⟩,2,2)) gs:=PF.out.drew;have Ln:Frm (fun k=>k=A.ga∨k=A.gr) w ((set2 w10 A7.ga tp (2,some ⟨B3,0,none⟩,2,2)).drew.setCell ⟨A7.gr,t*2+1,none⟩ (.int .i64 tp)):=Oj.out.trans (Frm.drew _ _);have LP:=aA (Cb.out _ _ TK);have Ga:=aA Ln;clear TK Ln Rk;generalize (set2 w10 A7.ga tp (2,some ⟨B3,0,none⟩,2,2)).drew=w12 at *;obtain⟨w13,Rz⟩:=eZ (w12.setCell ⟨A7.gr,t*2+1,none⟩ (.int .i64 tp));rw[Rz]at LP Ga;go_wp2_with fail;refine LP.out.mono ?_;intro e w6 hz;obtain⟨v,rfl⟩:=hz.ret;have HZ:Hid (ZqP w S A (PU.map Prod.fst) (.returned (.bool v)) w6):=by
      show ZqP _ _ _ _ _ _
      rw[HP.out];exact hz.toQ Ga.out (DD.out.trans (SaS.setN _ _ _))
     clear hz;go_wp2;go_ret;exact HZ.out
  ·have ti:((es.length:Int) == 5)=false:=by rw[beq_eq_false_iff_ne];omega
   rw[ti];rw[if_neg hf5]at sa;have Cb:=aA (kX (key:=key) (val:=val) H g r [] none none wk1 p1 trivial trivial (by unfold sz;rw[hd];simp only;omega) Ki Az.out w2 S A1 HX.out);clear hf5 ti fv;go_wp2_with fail;refine Cb.out.mono ?_;intro e w6 hz;obtain⟨v,rfl⟩:=hz.ret;have HZ:Hid (ZqP w S A (PU.map Prod.fst) (.returned (.bool v)) w6):=by
    show ZqP _ _ _ _ _ _
    rw[sa.out];exact hz.toQ HF.out HA.out
   clear hz;go_wp2;go_ret;exact HZ.out
