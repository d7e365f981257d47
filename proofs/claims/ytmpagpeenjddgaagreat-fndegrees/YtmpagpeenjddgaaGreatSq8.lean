import Derived.Deep.DeepCutAuto
import Derived.Test.YtmpagpeenjddgaaGreatSq2
set_option maxHeartbeats 9999999
set_option maxRecDepth 99999
set_option linter.all false
namespace Go.Proofs.YtmpagpeenjddgaaGreat
open Go.RowKit Fo
variable{key val:ByteArray}{e:Ending}{k:Int}{ces es l:List E3}{H S b i s t:Nat}{r:Option fZ}{A A1:SA}{v:Value}{w w' w1 w2:World}{f g:fZ}
structure Fin(f' g:fZ)(b:Nat)(d:Nd):Prop where
 sub:∀x d',g.n x=some d'->(setN f' b d).n x=some d'
 len:g.c.length=f'.c.length
 r:g.r=f'.r
 next:g.next=f'.next
 gen:g.gen=f'.gen
 m:g.m=f'.m
theorem Sp.fin{f':fZ}(h:Sp w S A f')(f:Bl w w1)(i:b<f'.c.length){x:NV}{d:Nd}(hx:NdR w1 x d)(k:Fin f' g b d):Zt w S A g (Go.Proofs.YtmpagpeenjddgaaGreat.set2 w1 A.ga b x):=by
 obtain⟨⟨A',a,c⟩,e⟩:=h.store f i hx;exact⟨⟨A',a.sub k.sub k.len k.r k.next k.gen k.m,c⟩,e⟩
theorem Zt.trans(hF:Frm (fun k=>k=A.ga) w w1)(b:SaS A A1)(h:Zt w1 S A1 g w2):Zt w S A g w2:=by
 obtain⟨⟨c,d,e⟩,a⟩:=h;rw[b.ga]at a;exact⟨⟨c,d,b.trans e⟩,hF.trans a⟩
theorem ZpP.trans(hF:Frm (fun k=>k=A.ga) w w1)(a:SaS A A1)(h:ZpP w1 S A1 r e w2):ZpP w S A r e w2:=
 ⟨fun q=>⟨(h.no q).1,by have:=(h.no q).2;rw[a.ga]at this;exact hF.trans this⟩,fun g q=>⟨(h.yes g q).1,Zt.trans hF a (h.yes g q).2⟩⟩
theorem ZpP.ret(h:ZpP w S A r e w2):∃v,e=.returned (.bool v):=by
 cases r with
 | none=>exact⟨_,(h.no rfl).1⟩
 | some g=>exact⟨_,(h.yes g rfl).1⟩
structure ZsP(w:World)(S:Nat)(A:SA)(f:fZ)(b i:Nat)(es:List E3)(r:Ending)(w':World):Prop where
 ae:Frm (fun k=>k=A.ga) w w'
 no:shadow f (.ai b i)=none->r=.returned (iV (-1))
 yes:∀g c,shadow f (.ai b i)=some (g,c)->r=.returned (iV c)/\∃A' f',Sp w' S A' f'/\SaS A A'/\f'.c.length=f.c.length/\Fin f' g b (2,es.set i (ky es i,.empty,(c:Int)))
theorem iD(n:IC f)(z:∀b d,f.n b=some d->d.2.length<=10)(C:VE f)(w:World)(S:Nat)(A:SA)(h:Sp w S A f)(E:f.r.length<=16)(b i:Nat)(es:List E3)(m:f.n b=some (2,es))(t:i<es.length):
  Calls Tryz.prog 69 #[pT S 0,iV (kd es i)] w (ZsP w S A f b i es):=by
 obtain⟨d,s⟩:=n.af m (aR t);refine(oI n z w S A h E (kd es i) d s).mono ?_;intro r w' p;rcases tZ n C m t s with⟨j,a,D⟩ | ⟨j,o,a⟩ | ⟨j,o,g,a,v,k,y⟩
 ·obtain⟨rfl,l⟩:=p.own j
  refine⟨Frm.aa l,fun q=>(by rw[a]at q;cases q),fun g c q=>?_⟩;rw[a]at q;cases q;refine⟨rfl,A,f,h.below l,SaS.refl _,rfl,fun x d' u=>?_,rfl,rfl,rfl,rfl,rfl⟩;rw[D];show upd f.n b (some (2,es)) x=some d'
  by_cases e:x=b
  ·rw[e,aE,<-m,<-e];exact u
  ·rw[aC _ _ e];exact u
 ·obtain⟨rfl,l⟩:=p.no j o
  exact⟨Frm.aa l,fun _=>rfl,fun g c q=>by rw[a]at q;cases q⟩
 ·obtain⟨rfl,B,hF⟩:=p.yes j o
  refine⟨hF,fun q=>(by rw[a]at q;cases q),fun g' c q=>?_⟩;rw[a]at q;cases q;exact⟨rfl,_,_,B,SaS.setN _ _ _,rfl,y,k.c,v,k.next,k.gen,k.m⟩
structure Ct1(w:World)(S:Nat)(A:SA)(f1:fZ)(es1:List E3)(s9:Value)(wx:World):Prop where
 ex:∃A1,Sp wx S A1 f1/\SaS A A1
 ae:Frm (fun k=>k=A.ga) w wx
 sl:yE.Sl wx s9 es1
theorem uU{P:List Nat}{h:Nat}{lo hi:OB}(wk:Wk f t H)(p:aO f t H P b (h+1) lo hi)(hl:loR lo key)(hh:hiR hi key)(h5:sz f.n b<5)(hV:VE f)(kz:f.r.length<=16)
  (ih:∀(g:fZ) (c:Nat) (P':List Nat) (lo' hi':OB),Wk g t H->aO g t H P' c h lo' hi'->loR lo' key->hiR hi' key->sz g.n c<5->VE g->g.r.length<=16->∀(w:World) (S:Nat) (A:SA),Sp w S A g->Calls Tryz.prog 72 #[pT S 0,iV c,.string key,.string val] w (ZpP w S A ((putAt h g c key val).map Prod.fst)))
  (w:World) (S:Nat) (A:SA) (hS:Sp w S A f):Calls Tryz.prog 72 #[pT S 0,iV b,.string key,.string val] w (ZpP w S A ((putAt (h+1) f b key val).map Prod.fst)):=by
 have mq:=gW;have Gr:=jA;obtain⟨es,N,ur,au⟩:=p.inner wk;have ah:es.length<=5:=wk.ai N;have d5:=wk.ic.lt N;have bz:0<es.length:=List.length_pos_iff.2 au;obtain⟨s,p1,_⟩:=wk.bw p N key hl;obtain⟨v0,v1⟩:=hV.inner wk.ic N bz;obtain⟨_,s1,_⟩:=hS.cells;obtain⟨a,c,ef,y9,BQ,c0,c1,qy⟩:=hS.v.aq.at N;simp only at ef c0 c1;have ym:S≠A.ga:=hS.box.ab hS.v.aq.arr (by decide);have Fz:(b:Int) <(A.ns.length:Int):=by omega
 have hp0:(0:Int) <(es.length:Int):=by omega
 have HL:=aA (aI hl hh);have m:Hid (putAt (h+1) f b key val=match stepDown f b key with
  | none=>none
  | some (g,c)=>putAt h g c key val):=rfl
 have xn:=aA (qJ N key);rw[xn.out]at m;have HK:Hid (lowK es key=if kl key (ky es 0)=true then es.set 0 (key,(es.getD 0 e0).2)else es):=rfl;have D9:VE (setN f b (2,lowK es key)):=hV.setN b (VL.lowK (hV b _ N) key);have AJ:=hS.ck (.slice a es.length c) es 0 (key,.empty,(kd es 0:Int)) ef bz (by omega) 2 d5;obtain⟨g0,o0,cc,he,vj,aa⟩:=eG ef bz;cases he;obtain⟨x0,x1,x2⟩:=aa w 0 rfl bz;rw[v0]at x0 x1 x2;simp only[Nat.zero_mul,Nat.add_zero]at x0 x1 x2;have HQ:Hid (ky es 0=ky es 0):=rfl;have HB:Hid (kl key (ky es 0)=Op.bytesLess key.toList (ky es 0).toList):=rfl;clear aa;generalize putAt (h+1) f b key val=Q at *;have nw:=aA hS;have IA:=aA ef;go_enter Tryz.func72,Tryz.ntmps72;go_upto_if 86 with fail
 go_cut [9] (fun s9 wx=>Ct1 w S A (setN f b (2,lowK es key)) (lowK es key) s9 wx)
 case first=>
  by_cases hk:kl key (ky es 0)=true
  ·have sk:Op.bytesLess key.toList (ky es 0).toList=true:=hk
   have PQ:Hid (lowK es key=es.set 0 (key,.empty,(kd es 0:Int))):=by show lowK es key=_;rw[HK.out,if_pos hk,v0]
   have DO:Hid (Calls Tryz.prog 76 #[sL g0 o0 es.length c,iV 0,.agg #[.string key,.string .empty,iV (kd es 0)]] w fun r w'=>∃u,r=.returned u/\yE.Own w.heap.size w' u (es.set 0 (key,.empty,(kd es 0:Int)))/\Bl w w'):=eY _ es 0 (key,.empty,(kd es 0:Int)) w IA.out bz (by omega);rw[sk];clear hk AJ sk;go_wp2_with fail;refine DO.out.mono ?_;rintro r w1 ⟨u,rfl,hu,ao⟩;obtain⟨x,rfl,Ac,BW⟩:=hu.nv 2;have O:=nw.out.below ao;obtain⟨k0,B,iN,ie,jw,ix,_⟩:=O.wr d5;obtain⟨_,t1,_⟩:=O.cells;have HR:=aA (nw.out.store ao d5 BW);have HX:Hid (yE.Sl w1 (.slice x.2.1 x.2.2.1 x.2.2.2) (es.set 0 (key,.empty,(kd es 0:Int)))):=hu.sl;clear O;go_wp2;rw[dM Ac];go_meet;rw[PQ.out];obtain⟨⟨A1,E,q2⟩,q3⟩:=HR.out;exact⟨⟨A1,E,q2⟩,q3,HX.out.ae (eL w1 A.ga b x) fun g cs U=>U.ab (nw.out.below ao).v.aq.arr (by decide)⟩
  ·have sk:Op.bytesLess key.toList (ky es 0).toList=false:=Bool.eq_false_iff.2 hk
   have PQ:Hid (lowK es key=es):=by show lowK es key=_;rw[HK.out,if_neg hk]
   rw[sk];clear hk AJ sk;go_wp2_with fail;go_meet;rw[PQ.out];refine⟨⟨A,nw.out.sub (fun x d' hx=>?_) rfl rfl rfl rfl rfl,SaS.refl _⟩,Frm.refl _ _,IA.out⟩;have br:upd f.n b (some (2,es)) x=some d':=hx;by_cases e:x=b
   ·rw[e,aE]at br;rw[e,N];exact br
   ·rw[aC _ _ e]at br;exact br
 case rest=>
  obtain⟨⟨A1,O,DP⟩,iq,kw⟩:=hcut;have ff:(setN f b (2,lowK es key)).n b=some (2,lowK es key):=aE _ _ _;have ed:(lowK es key).length=es.length:=cM es key;obtain⟨_,E,AC,mi⟩:=p1.inner s;rw[ff]at E;cases E;have Oh:(setN f b (2,lowK es key)).r.length<=16:=kz;have Df:(setN f b (2,lowK es key)).c.length=f.c.length:=rfl;have EY:=fun b' d' (gy:(setN f b (2,lowK es key)).n b'=some d')=>(by have:=s.ai gy;omega:d'.2.length<=10);generalize lowK es key=j at *;generalize setN f b (2,j)=f1 at *;have JH:=aA (sH AC.a6 key);have T:=eJ key mi;obtain⟨v1,_⟩:=D9.inner s.ic ff T;obtain⟨va,vc,rfl⟩:=kw.len;obtain⟨F,o1,cc1,DE,lw,wi⟩:=eG kw (by omega);cases DE;have Ca:=vP (sL F o1 j.length vc) j key wc kw (by omega);rw[JH.out]at Ca;have TB:j.length<=5:=by omega
  have Lz:=aA (aI ed Df);clear ed Df;generalize bL j key=i at *;obtain⟨x0,x1,x2⟩:=wi wc i rfl T;rw[v1]at x0 x1 x2;have S0:(i:Int) <(j.length:Int):=by omega
  have xo:=aA (iD s.ic EY D9 wc S A1 O Oh b i j ff T);have XQ:=m;have Uk:Hid (∀g c,stepDown f b key=some (g,c)->∃P' lo' hi',Wk g t H/\aO g t H P' c h lo' hi'/\loR lo' key/\hiR hi' key/\sz g.n c<5/\aZ f g):=fun g c q=>by
   obtain⟨P',lo',hi',B,C,K,L,D,_,k6⟩:=wk.stepDown p HL.out.1 HL.out.2 h5 q;exact⟨P',lo',hi',B,C,K,L,D,k6⟩
  have Ai:=aA iq;have QM:=aA DP;clear AJ v0 v1 hV HK HQ HB iq DP wi;go_wp2_with fail;refine Ca.mono ?_;rintro r w2 ⟨rfl,rfl⟩;go_wp2_with fail;refine xo.out.mono ?_;intro r G o;obtain⟨bo,xg,xh⟩:=o;cases R:shadow f1 (.ai b i)with
  | none=>
   obtain rfl:=xg R;have HP:Hid (Q=none):=by show Q=none;rw[m.out];rw[R]
   clear xg xh R;go_wp2;go_ret;rw[HP.out];exact⟨fun _=>⟨rfl,Ai.out.trans (by have:=bo;rw[QM.out.ga]at this;exact this)⟩,fun g q=>by cases q⟩
  | some gc=>
   obtain⟨g,c⟩:=gc;obtain⟨rfl,Z,f3,cx,CB,Bp,bj⟩:=xh g c R;obtain⟨l,_,p3,⟨es2,m1,m2,m3,m4⟩,m5,m6,m7,_,m9⟩:=s.aj p1 ff T R;have ul:=D9.aj s.ic ff T R;rw[R]at m xn;obtain⟨es',zt⟩:=eZ (j.set i (ky j i,.empty,(c:Int)));rw[zt]at bj;have pd:g.n b=some (2,es'):=by
    have:=bj.sub b _ m1
    have e:(setN f3 b (2,es')).n b=some (2,es'):=aE _ _ _;rw[e]at this;rw[m1];exact this.symm
   obtain⟨⟨k,d⟩,J⟩:=l.ic.live (x:=c) (by rw[m6];omega);have ap:=l.ai J;have zq:=l.ai pd;simp only at ap zq;have Az:b<f3.c.length:=by rw[Bp,Lz.out.2];exact d5
   have nf:yE.Sl G (sL F o1 j.length vc) j:=kw.ae bo fun g cs U=>U.ab O.v.aq.arr (by decide);obtain⟨y0,y1,y2⟩:G.cell? (aD F (o1+i*3))=some (.string (ky j i))/\G.cell? (aD F (o1+i*3+1))=some (.string .empty)/\G.cell? (aD F (o1+i*3+2))=some (iV (kd j i)):=by
    have au:F≠A1.ga:=by
     rcases kw with⟨q,_⟩ | ⟨g',o',cap',xs,q,E,_⟩
     ·cases q
     ·cases q;exact E.ab O.v.aq.arr (by decide)
    have hw:∀k,G.cell? (aD F k)=w2.cell? (aD F k):=fun k=>by simp[World.cell?,bo.block F lw au]
    exact⟨(hw _).trans x0,(hw _).trans x1,(hw _).trans x2⟩
   have JQ:Hid (Calls Tryz.prog 76 #[sL F o1 j.length vc,iV i,.agg #[.string (ky j i),.string .empty,iV c]] G fun r w'=>∃u,r=.returned u/\yE.Own G.heap.size w' u es'/\Bl G w'):=by
    rw[<-zt];exact eY _ j i (ky j i,ByteArray.empty,(c:Int)) G nf T (by omega)
   have AS:¬((c:Int)<0):=by omega
   have Lx:Hid (es'.length=j.length):=by show es'.length=_;rw[<-zt,List.length_set]
   have JJ:Hid (Frm (fun k=>k=A.ga) w G):=Ai.out.trans (by have:=bo;rw[QM.out.ga]at this;exact this);have MY:Hid (SaS A Z):=QM.out.trans CB;have Bz:Hid (g.r.length<=16):=by show g.r.length<=16;rw[m9.len];exact Oh
   have Ly:Hid (g.c.length=f3.c.length):=bj.len;clear xg xh kw O zt m1 m3 m4 m5 m7 m9 EY Ca xo bo CB Bp x0 x1 x2 nf;go_wp2_with fail;refine JQ.out.mono ?_;rintro r w4 ⟨u,rfl,hu,it⟩;obtain⟨x,rfl,Ac,BW⟩:=hu.nv 2;have av:=cx.below it;obtain⟨k0,B,iN,ie,jw,ix,R6⟩:=av.wr Az;obtain⟨_,t1,_⟩:=av.cells;obtain⟨⟨A5,cy,Ap⟩,ez⟩:=cx.fin it Az BW bj;have Dr:yE.Sl (set2 w4 Z.ga b x) (.slice x.2.1 x.2.2.1 x.2.2.2) es':=hu.sl.ae (eL w4 Z.ga b x) fun g cs U=>U.ab av.v.aq.arr (by decide);have vb:Hid (Frm (fun k=>k=A.ga) w (set2 w4 Z.ga b x)):=JJ.out.trans (ez.wide fun k _ e=>e.trans MY.out.ga);have H2:Hid (SaS A A5):=MY.out.trans Ap;have JU:=aA cy;have tu:=dM (w:=w4) (g:=Z.ga) (q:=b) Ac;obtain⟨w5,O8⟩:=eZ (set2 w4 Z.ga b x);rw[O8]at cy Dr vb JU tu;obtain⟨_,t5,_⟩:=cy.cells;obtain⟨ac,cpc,gp,Kd,_,d0,d1,E7⟩:=cy.v.aq.at J;simp only at gp d0 d1 E7;have Gu:(c:Int) <(A5.ns.length:Int):=by omega
   clear av it ez Ap BW hu cx O8 cy;go_upto_if 142 with fail
   clear tu;by_cases pa:d.length=5
   ·have vi:((d.length:Int) == 5)=true:=by rw[pa];rfl
    have H5:=aA pa;rw[vi];clear pa vi;have Jg:=fun b' d' (gy:g.n b'=some d')=>(by have:=l.ai gy;omega:d'.2.length<=10);have HT:=aA (nD g);have Mr:=aA (nA l.ic (l.ic.counts Bz.out Jg) Jg w5 S A5 JU.out (by have:=Bz.out;omega) (-1));clear Jg gp;go_wp2_with fail;refine Mr.out.mono ?_;rintro r Y ⟨rfl,nk⟩;rw[HT.out];rw[aF J,aF pd]at m;simp only at m;rw[if_pos H5.out]at m;by_cases n:aG g=0
    ·rw[if_pos n]
     rw[if_pos n]at m;have HP:Hid (Q=none):=m.out;clear n m;go_wp2;go_ret;rw[HP.out];exact⟨fun _=>⟨rfl,vb.out.trans (Frm.aa nk)⟩,fun g q=>by cases q⟩
    ·rw[if_neg n]
     rw[if_neg n]at m;obtain⟨l1,l2,l3,l4⟩:=aP n;have JO:Hid (stepDown f b key=some (splitF g b es' i c k d 3 (aG g) (ky d 3),if kl key (ky d 3)=true then c else aG g)):=by
      show stepDown f b key=_
      rw[xn.out,aF J,aF pd];exact(if_pos H5.out).trans (if_neg n)
     have VX:Q=putAt h (splitF g b es' i c k d 3 (aG g) (ky d 3)) (if kl key (ky d 3)=true then c else aG g) key val:=m.out;have PY:=aA VX;obtain⟨P',lo',hi',B,C,K,L,D,k6⟩:=Uk.out _ _ JO.out;have Ng:VE (splitF g b es' i c k d 3 (aG g) (ky d 3)):=ul.splitF b (ul b _ pd) i c k (ul c _ J) 3 (aG g) (ky d 3);have BC:c≠aG g:=fun e=>by rw[e]at m6;omega
     have qx:b≠aG g:=fun e=>by have:=l.ic.a7 pd;rw[e]at this;omega
     have NT:(splitF g b es' i c k d 3 (aG g) (ky d 3)).r.length<=16:=Bz.out;have Gq:=JU.out.below nk;have Qk:=aA (sV Y S A5 Gq c (aG g) k d J H5.out (l.ic.lt J) l2 BC);have FY:=Dr.below nk;have rf:Fin (setN (setN g (aG g) (k,d.drop 3)) c (k,d.take 3)) (splitF g b es' i c k d 3 (aG g) (ky d 3)) b (2,insE es' (i+1) (ky d 3,.empty,(aG g:Int))):=by
      refine⟨fun z d' o=>?_,by simp[splitF,setN,takeAt],rfl,rfl,rfl,rfl⟩;have M:upd (upd (upd g.n c (some (k,d.take 3))) (aG g) (some (k,d.drop 3))) b (some (2,insE es' (i+1) (ky d 3,.empty,(aG g:Int)))) z=some d':=o;show upd (upd (upd g.n (aG g) (some (k,d.drop 3))) c (some (k,d.take 3))) b _ z=some d'
      by_cases e1:z=b
      ·rw[e1,aE]at M |-;exact M
      ·rw[aC _ _ e1]at M |-
       by_cases e2:z=c
       ·rw[e2,aC _ _ BC,aE]at M
        rw[e2,aE];exact M
       ·rw[aC _ _ e2]
        by_cases e3:z=aG g
        ·rw[e3,aE]at M |-;exact M
        ·rw[aC _ _ e3,aC _ _ e2]at M
         rw[aC _ _ e3];exact M
     have pf:(setN (setN g (aG g) (k,d.drop 3)) c (k,d.take 3)).n (aG g)=some (k,d.drop 3):=by
      show upd (upd g.n (aG g) _) c _ (aG g)=_
      rw[aC _ _ (Ne.symm BC),aE]
     have MM:(setN (setN g (aG g) (k,d.drop 3)) c (k,d.take 3)).c.length=g.c.length:=rfl;have FA:ky (d.drop 3) 0=ky d 3:=by unfold ky;rw[fF]
     have iu:(d.drop 3).length=2:=by rw[List.length_drop,H5.out]
     have Np:b<g.c.length:=l.ic.lt pd;generalize setN (setN g (aG g) (k,d.drop 3)) c (k,d.take 3)=g7 at *;generalize splitF g b es' i c k d 3 (aG g) (ky d 3)=gs at *;generalize d.drop 3=dr at *;generalize ky d 3=first at *
     generalize aG g=q at *;have fk:i+1<=es'.length:=by rw[Lx.out];exact T
     clear VX m n;go_wp2_with fail;refine Qk.out.mono ?_;rintro r w7 ⟨rfl,⟨⟨I,V,ES⟩,xr⟩⟩;obtain⟨_,t7,_⟩:=V.cells;obtain⟨aq,cpq,Cp,Td,_,e0',e1',_⟩:=V.v.aq.at pf;simp only at Cp e0' e1';obtain⟨gq,oq,cq',SW,Cc,E8⟩:=eG Cp (by omega);cases SW;obtain⟨f0,_,_⟩:=E8 w7 0 rfl (by omega);have V3:(dr.getD 0 e0).1=first:=FA
     rw[V3]at f0;simp only[Nat.zero_mul,Nat.add_zero]at f0;have SS:(0:Int) <(dr.length:Int):=by omega
     have WP:(q:Int) <(I.ns.length:Int):=by omega
     have FZ:yE.Sl w7 (.slice x.2.1 x.2.2.1 x.2.2.2) es':=FY.ae xr fun g cs U=>U.ab Gq.v.aq.arr (by decide);have KY:b<g7.c.length:=by rw[MM];exact Np
     obtain⟨_,_,_,_,_,_,Nk⟩:=V.wr KY;have En:S≠I.ga:=V.box.ab V.v.aq.arr (by decide);obtain⟨i1,OI⟩:=eZ (i+1);have yt:IntKind.i64.wrap ((i:Int)+1)=(i1:Int):=(IntWalk.i64_in _ ⟨by omega,by omega⟩).trans (by omega);rw[OI]at rf fk;have Qm:=aA (V.b7 (.slice x.2.1 x.2.2.1 x.2.2.2) es' i1 (first,.empty,(q:Int)) FZ fk (by omega) 2 KY);have H4:Hid (Frm (fun k=>k=A.ga) w w7):=(vb.out.trans (Frm.aa nk)).trans (xr.wide fun k _ e=>e.trans H2.out.ga);have Dx:Hid (SaS A I):=H2.out.trans ES;have Ut:=aA V;clear FZ Cp E8 V3 xr ES Gq FY iu MM FA OI;go_wp2;go_region_held3 (fun W=>W.cell? (aD S 1)=some (sL I.ga 0 I.ns.length (I.ns.length+I.nj.length))) (first | assumption | go_keep | exact cB En dh) ((go_at_call 91;refine Qm.out.mono ?_;rintro r w8 ⟨y,rfl,Dv,Ad,sf,dh,kk0,kk1,iN,ie,jw,ix⟩));rw[dM Dv];obtain⟨⟨A9,rh,M2⟩,yl⟩:=Ut.out.fin sf KY Ad rf;have UU:Hid (Frm (fun k=>k=A.ga) w (set2 w8 I.ga b y)):=H4.out.trans (yl.wide fun k _ e=>e.trans Dx.out.ga);have UD:Hid (SaS A A9):=Dx.out.trans M2;have Pe:=aA rh;generalize set2 w8 I.ga b y=w9 at *;clear dh iN ie jw ix yl M2 rh Ad sf;by_cases X:kl key first=true
     ·have E:Op.bytesLess key.toList first.toList=true:=X
      have q2:Op.bytesLess first.toList key.toList=false:=fN (a:=key) (b:=first) X
      have q3:(key.toList == first.toList)=false:=by
       rw[beq_eq_false_iff_ne];intro e;rw[e,pF]at E;cases E
      rw[if_pos X]at PY C D;have EL:=aA (ih gs c P' lo' hi' B C K L D Ng NT w9 S A9 Pe.out);clear X B C K L D;go_wp2_with fail;refine EL.out.mono ?_;intro e Y o;obtain⟨v,rfl⟩:=o.ret;have HZ:Hid (ZpP w S A (Q.map Prod.fst) (.returned (.bool v)) Y):=by
       show ZpP _ _ _ _ _ _
       rw[PY.out];exact ZpP.trans UU.out UD.out o
      clear o;go_wp2;go_ret;exact HZ.out
     ·have E:Op.bytesLess key.toList first.toList=false:=Bool.eq_false_iff.2 X
      rw[if_neg X]at PY C D;have EL:=aA (ih gs q P' lo' hi' B C K L D Ng NT w9 S A9 Pe.out);clear B C K L D;have ph:(Op.bytesLess first.toList key.toList=true\/(key.toList == first.toList)=true):=by
       rcases lF (a:=key) (b:=first) E with e | e
       ·exact .inr (by rw[e];exact beq_self_eq_true _)
       ·exact .inl e
      clear X;rcases ph with q2 | q3
      case' inl=>skip
      case' inr=>
       have q2:Op.bytesLess first.toList key.toList=false:=by
        have:key.toList=first.toList:=by simpa using q3
        rw[this];exact pF _
      all_goals (
       go_wp2_with fail
       refine EL.out.mono ?_;intro e Y o;obtain⟨v,rfl⟩:=o.ret;have HZ:Hid (ZpP w S A (Q.map Prod.fst) (.returned (.bool v)) Y):=by
        show ZpP _ _ _ _ _ _
        rw[PY.out];exact ZpP.trans UU.out UD.out o
       clear o;go_wp2;go_ret;exact HZ.out)
   ·have vi:((d.length:Int) == 5)=false:=by rw[beq_eq_false_iff_ne];omega
    have JO:Hid (stepDown f b key=some (g,c)):=by
     show stepDown f b key=_
     rw[xn.out,aF J];exact if_neg pa
    rw[aF J]at m;simp only at m;rw[if_neg pa]at m;obtain⟨P',lo',hi',B,C,K,L,D,_⟩:=Uk.out g c JO.out;have EL:=aA (ih g c P' lo' hi' B C K L D ul Bz.out w5 S A5 JU.out);rw[vi];clear pa vi gp B C K L D;go_wp2_with fail;refine EL.out.mono ?_;intro e Y o;obtain⟨v,rfl⟩:=o.ret;have HZ:Hid (ZpP w S A (Q.map Prod.fst) (.returned (.bool v)) Y):=by
     show ZpP _ _ _ _ _ _
     rw[m.out];exact ZpP.trans vb.out H2.out o
    clear o;go_wp2;go_ret;exact HZ.out
theorem lH:∀(h:Nat) (f:fZ) (b:Nat) (P:List Nat) (lo hi:OB),Wk f t H->aO f t H P b h lo hi->loR lo key->hiR hi key->sz f.n b<5->VE f->f.r.length<=16->∀(w:World) (S:Nat) (A:SA),Sp w S A f->
  Calls Tryz.prog 72 #[pT S 0,iV b,.string key,.string val] w (ZpP w S A ((putAt h f b key val).map Prod.fst))
 | 0,f,b,P,lo,hi,a,p,m,l,j,k,n,w,S,A,i=>by
  obtain⟨es,d,u,s⟩:=p.leaf a;have r:=a.ai d;refine(xD w S A i b es key val d u.a6 s (by simp only at r;omega) (a.ic.lt d)).mono ?_;rintro e w' ⟨rfl,x⟩;have v:(putAt 0 f b key val).map Prod.fst=some (setN f b (1,putE es key val)):=by unfold putAt;rw[aF d];rfl
  rw[v];exact⟨fun q=>(by cases q),fun g q=>(by cases q;exact⟨rfl,x⟩)⟩
 | h+1,f,b,P,lo,hi,a,p,m,l,j,k,n,w,S,A,i=>
  uU a p m l j k n (fun g c o lo' hi' y z B C D E F=>lH h g c o lo' hi' y z B C D E F) w S A i
theorem aOU(l:List (Int×Int))(t:Nat)(q:Int)(h:t<l.length):(yT.row l).setIfInBounds (t*2+1) (iV q)=yT.row (l.set t ((l.getD t (0,0)).1,q)):=by
 unfold Ely.row;rw[List.setIfInBounds_toArray];congr 1;induction l generalizing t with
 | nil=>simp at h
 | cons a l ih=>
  cases t with
  | zero=>rfl
  | succ t=>
   simp only[List.flatMap_cons,List.set_cons_succ];have e:yT.cell a=[iV a.1,iV a.2]:=rfl;rw[e];have b:(t+1)*2+1=t*2+1+1+1:=by omega
   rw[b];show [_,_]++(l.flatMap yT.cell).set (t*2+1) _=_
   rw[ih t (by simpa using h)];rfl
theorem Sp.bm(h:Sp w S A f)(ht:t<f.r.length)(q:Nat):Sp (w.setCell (aD A.gr (t*2+1)) (iV q)) S A (setL f (.root t) q)/\Frm (fun k=>k=A.gr) w (w.setCell (aD A.gr (t*2+1)) (iV q)):=by
 have hF:Frm (fun k=>k=A.gr) w (w.setCell (aD A.gr (t*2+1)) (iV q)):=Frm.set (S:=fun k=>k=A.gr) w (p:=aD A.gr (t*2+1)) rfl _;have a:=h.v.bp;have b:(setL f (.root t) q).r.length=f.r.length:=by simp[setL]
 refine⟨⟨?_,h.v.aq.ae hF (fun g cs k=>k.ab a (by decide)) (h.v.aq.arr.ab a (by decide)),h.v.ln,?_,by rw[b];exact h.v.rs,h.v.m.ae hF fun g cs k=>k.ab a (by decide)⟩,hF⟩
 ·have:=h.box.ae hF (h.box.ab a (by decide))
  have e:aL A (setL f (.root t) q)=aL A f:=by unfold aL;rw[b];rfl
  rw[e];exact this
 ·have:=a.set (t*2+1) (iV q)
  rw[aOU _ _ _ (by simp;omega),List.set_append_left _ _ ht]at this;have e:(f.r++A.rj).getD t (0,0)=f.r.getD t (0,0):=by rw[dC,if_pos ht]
  rw[e]at this;exact this
structure ZrP(w:World)(S:Nat)(A:SA)(f:fZ)(t:Nat)(r:Ending)(w':World):Prop where
 ae:Frm (fun k=>k=A.ga) w w'
 no:shadow f (.root t)=none->r=.returned (iV (-1))
 yes:∀g c,shadow f (.root t)=some (g,c)->r=.returned (iV c)/\∃A' f',Sp w' S A' f'/\SaS A A'/\f'.r=f.r/\g.r=(setL f' (.root t) c).r/\(∀x d,g.n x=some d->f'.n x=some d)/\g.c.length=f'.c.length/\g.next=f'.next/\g.gen=f'.gen/\g.m=f'.m
theorem mM(k:IC f)(s:∀b d,f.n b=some d->d.2.length<=10)(w:World)(S:Nat)(A:SA)(h:Sp w S A f)(x:f.r.length<=16)(t:Nat)(ht:t<f.r.length):
  Calls Tryz.prog 69 #[pT S 0,iV (aB f t)] w (ZrP w S A f t):=by
 obtain⟨d,n⟩:=k.ao (aQ ht);refine(oI k s w S A h x (aB f t) d n).mono ?_;intro r w' m;rcases qV k ht n with⟨e,a,v⟩ | ⟨e,l,a⟩ | ⟨e,l,g,a,o,i,p⟩
 ·obtain⟨rfl,j⟩:=m.own e
  refine⟨Frm.aa j,fun q=>(by rw[a]at q;cases q),fun g c q=>?_⟩;rw[a]at q;cases q;exact⟨rfl,A,f,h.below j,SaS.refl _,rfl,v.symm,fun _ _ q=>q,rfl,rfl,rfl,rfl⟩
 ·obtain⟨rfl,j⟩:=m.no e l
  exact⟨Frm.aa j,fun _=>rfl,fun g c q=>(by rw[a]at q;cases q)⟩
 ·obtain⟨rfl,u,hF⟩:=m.yes e l
  refine⟨hF,fun q=>(by rw[a]at q;cases q),fun g' c q=>?_⟩;rw[a]at q;cases q;exact⟨rfl,_,_,u,SaS.setN _ _ _,rfl,o,p,i.c,i.next,i.gen,i.m⟩
structure ZqP(w:World)(S:Nat)(A:SA)(r:Option fZ)(e:Ending)(w':World):Prop where
 ae:Frm (fun k=>k=A.ga\/k=A.gr) w w'
 no:r=none->e=.returned (.bool false)
 yes:∀g,r=some g->e=.returned (.bool true)/\∃A',Sp w' S A' g/\SaS A A'
theorem ZpP.ae(h:ZpP w S A r e w2):Frm (fun k=>k=A.ga) w w2:=by
 cases r with
 | none=>exact(h.no rfl).2
 | some g=>exact(h.yes g rfl).2.ae
theorem ZpP.toQ(hF:Frm (fun k=>k=A.ga\/k=A.gr) w w1)(a:SaS A A1)(h:ZpP w1 S A1 r e w2):ZqP w S A r e w2:=by
 refine⟨hF.trans (h.ae.wide fun k _ e=>.inl (e.trans a.ga)),fun q=>(h.no q).1,fun g q=>?_⟩;obtain⟨c,⟨b,d,f⟩,_⟩:=h.yes g q;exact⟨c,b,d,a.trans f⟩
theorem aNM(w:World)(a b:E3){g:Nat}(c:g=w.heap.size):yE.Sl (w.alloc (.cells #[.string a.1,.string a.2.1,iV a.2.2,.string b.1,.string b.2.1,iV b.2.2] 130)) (sL g 0 2 2) [a,b]:=by
 subst c;exact .inr ⟨w.heap.size,0,2,[a,b],by simp,IsC.new _ _ _,by simp,by simp⟩
theorem aFX(wk:Wk f t H)(hV:VE f)(kz:f.r.length<=16)(w:World)(S:Nat)(A:SA)(hS:Sp w S A f):
  Calls Tryz.prog 50 #[pT S 0,iV t,.string key,.string val] w (ZqP w S A ((put f t H key val).map Prod.fst)):=by
 have mq:=gW;have Gr:=jA;have ht:=wk.tl;have hE:=fun b' d' (gy:f.n b'=some d')=>(by have:=wk.ai gy;omega:d'.2.length<=10);obtain⟨_,s1,s2,_⟩:=hS.cells;obtain⟨r0,r1⟩:=hS.v.root ht;have h0:0<=(f.r.getD t (0,0)).2:=(wk.ic.rb _ (aQ ht)).1;have fy:(f.r.getD t (0,0)).2=(aB f t:Int):=by unfold aB;omega
 rw[fy]at r1;have Tv:(t:Int) <(f.r.length:Int):=by omega
 have xo:=aA (mM wk.ic hE w S A hS kz t ht);have h:Hid (put f t H key val=match shadow f (.root t)with
  | none=>none
  | some (g,r)=>if(Fo.look g r).2.length=5 then match bO g t r with
   | none=>none
   | some (k,top)=>putAt (H+1) k top key val
   else putAt H g r key val):=rfl
 generalize put f t H key val=K at *;clear hE fy h0 r0;go_enter Tryz.func50,Tryz.ntmps50;go_wp2_with fail;refine xo.out.mono ?_;intro r w1 s;obtain⟨iq,xg,xh⟩:=s;cases C:shadow f (.root t)with
 | none=>
  obtain rfl:=xg C;have I:Hid (K=none):=by show K=none;rw[h.out];rw[C]
  clear xg xh C;go_wp2;go_ret;rw[I.out];exact⟨iq.wide fun _ _ e=>.inl e,fun _=>rfl,fun g q=>by cases q⟩
 | some gc=>
  obtain⟨g,r⟩:=gc;obtain⟨rfl,A1,f1,X,DP,Aa,qh,qe,Dm,EE,OW,Cg⟩:=xh g r C;obtain⟨i,p1,a1,a2,a3,a4,a5,a6⟩:=wk.ak C;have MC:=hV.ak C;rw[C]at h;simp only at h;have BU:t<f1.r.length:=by rw[Aa];exact ht
  obtain⟨ay,dz⟩:=X.bm BU r;have Y:Sp (w1.setCell (aD A1.gr (t*2+1)) (iV r)) S A1 g:=ay.sub qe Dm qh EE OW Cg;obtain⟨_,t1,t2,_⟩:=X.cells;obtain⟨_,z1⟩:=X.v.root BU;have z2:=X.v.bp.frozen (t*2+1);have bo:Frm (fun k=>k=A.ga\/k=A.gr) w (w1.setCell (aD A1.gr (t*2+1)) (iV r)):=(iq.wide fun _ _ e=>.inl e).trans (dz.wide fun _ _ e=>.inr (e.trans DP.gr));obtain⟨w2,de⟩:=eZ (w1.setCell (aD A1.gr (t*2+1)) (iV r));rw[de]at Y bo;obtain⟨⟨k,es⟩,u⟩:=i.ic.live (x:=r) (by rw[a3];omega);have ap:=i.ai u;simp only at ap;obtain⟨_,u1,u2,_⟩:=Y.cells;obtain⟨ac,cpc,gp,Kd,_,d0,d1,E7⟩:=Y.v.aq.at u;simp only at gp d0 d1 E7;have hrI:(r:Int) <(A1.ns.length:Int):=by omega
  have Tu:(t:Int) <(f1.r.length:Int):=by omega
  have MR:¬((r:Int)<0):=by omega
  have Bz:Hid (g.r.length<=16):=by show g.r.length<=16;rw[a6.len];exact kz
  have HX:=aA Y;have HF:=aA bo;have HA:=aA DP;rw[aF u]at h;simp only at h;clear xg xh C iq dz bo X ay Y Aa qh qe Dm EE OW Cg DP xo a6;go_upto_if 43 with fail
  clear de;by_cases Q:es.length=5
  ·have vi:((es.length:Int) == 5)=true:=by rw[Q];rfl
   rw[vi];rw[if_pos Q]at h;have H5:=aA Q;clear Q vi;have Jg:=fun b' d' (gy:g.n b'=some d')=>(by have:=i.ai gy;omega:d'.2.length<=10);have VH:=i.ic.counts Bz.out Jg;have HT:=aA (nD g);have Mr:=aA fun(w':World) (hb:Bl w2 w') (x:Int)=>nA i.ic VH Jg w' S A1 (HX.out.below hb) (by have:=Bz.out;omega) x;clear Jg gp VH;have Ms:=aA (Mr.out w2 (bQ _ _) (-1));go_wp2_with fail;refine Ms.out.mono ?_;rintro r2 w3 ⟨rfl,V⟩;rw[HT.out];unfold bO at h;rw[aF u]at h;simp only at h;by_cases R:aG g=0
   ·rw[if_pos R]
    rw[if_pos R]at h;have I:Hid (K=none):=h.out;clear R h;go_wp2;go_ret;rw[I.out];exact⟨HF.out.trans (Frm.aa V),fun _=>rfl,fun g q=>by cases q⟩
   ·rw[if_neg R]
    rw[if_neg R]at h;obtain⟨l1,l2,l3,l4⟩:=aP R;have D3:=aA (aCW (f:=g) (g:=setN g r (k,es.take 3)) (d:=(k,es.drop 3)) rfl rfl l2);have JR:=aA (Mr.out w3 V (aG g));generalize hTp:aG (takeAt (setN g r (k,es.take 3)) (aG g) (k,es.drop 3))=a at *;have KC:=aA hTp;clear hTp;obtain⟨q,hq⟩:=eZ (aG g);rw[hq]at D3 JR;have al:¬((q:Int)<0):=by omega
    have HQ:=aA hq;rw[hq];clear hq;go_wp2_with fail;refine JR.out.mono ?_;rintro r3 w4 ⟨rfl,it⟩;rw[D3.out];by_cases L:a=0
    ·rw[if_pos L]
     rw[if_pos L]at h;have I:Hid (K=none):=h.out;clear L h;go_wp2;go_ret;rw[I.out];exact⟨(HF.out.trans (Frm.aa V)).trans (Frm.aa it),fun _=>rfl,fun g q=>by cases q⟩
    ·rw[if_neg L]
     rw[if_neg L,HQ.out]at h;have I:Hid (K=putAt (H+1) (growF g t r k es 3 q a (ky es 0) (ky es 3)) a key val):=h.out;rw[HQ.out]at l1 l2 l3 l4;obtain⟨m1,m2,P,m4⟩:=aP (f:=takeAt (setN g r (k,es.take 3)) (aG g) (k,es.drop 3)) (by rw[KC.out];exact L);rw[KC.out]at m1 m2 P;rw[HQ.out]at m2 P;have qa:∀x,cu (takeAt (setN g r (k,es.take 3)) q (k,es.drop 3)) x=if q=x then 1 else cu g x:=fun x=>dW (f:=setN g r (k,es.take 3)) (k,es.drop 3) l2 x;rw[qa]at P;have uw:a≠q:=fun e=>by rw[if_pos e.symm]at P;omega
     rw[if_neg (Ne.symm uw)]at P;have M:a<g.c.length:=by simpa [takeAt,setN] using m2
     subst a1;obtain⟨wk2,p2,_,_,b3⟩:=i.grow a3 u (m:=3) (by omega) (by have:=H5.out;omega) l1 l2 l3 m1 M P uw;have Ng:=MC.growF t (aB g t) k (MC _ _ u) 3 q a (ky es 0) (ky es 3);have Lh:aB g t≠q:=fun e=>by rw[e]at a3;omega
     have ei:aB g t≠a:=fun e=>by rw[e]at a3;omega
     have aw:sz (growF g t (aB g t) k es 3 q a (ky es 0) (ky es 3)).n a<5:=by unfold sz;rw[b3];simp
     have NT:(growF g t (aB g t) k es 3 q a (ky es 0) (ky es 3)).r.length<=16:=by
      have:(growF g t (aB g t) k es 3 q a (ky es 0) (ky es 3)).r.length=g.r.length:=(aZ.growF ..).len
      rw[this];exact Bz.out
     have C9:=(HX.out.below V).below it;have Qk:=aA (sV w4 S A1 C9 (aB g t) q k es u H5.out (i.ic.lt u) l2 Lh);have fu:t<g.r.length:=i.tl;have xi:Hid (∀(A':SA) (w':World) (x:NV),Sp w' S A' (setN (setN g q (k,es.drop 3)) (aB g t) (k,es.take 3))->NdR w' x (2,[(ky es 0,.empty,(aB g t:Int)),(ky es 3,.empty,(q:Int))])->Sp ((set2 w' A'.ga a x).setCell (aD A'.gr (t*2+1)) (iV a)) S (A'.setN a x) (growF g t (aB g t) k es 3 q a (ky es 0) (ky es 3))/\Frm (fun k=>k=A'.ga\/k=A'.gr) w' ((set2 w' A'.ga a x).setCell (aD A'.gr (t*2+1)) (iV a))):=fun A' w' x my hx=>by
      have h1:=my.set2 (q:=a) M hx;obtain⟨h2,h3⟩:=h1.bm (t:=t) fu a;refine⟨h2.sub (fun z d' s=>?_) (by simp[growF,setL,takeAt,setN]) rfl rfl rfl rfl,((eL w' A'.ga a x).wide fun _ _ e=>.inl e).trans (h3.wide fun _ _ e=>.inr e)⟩;have y:upd (upd (upd g.n (aB g t) (some (k,es.take 3))) q (some (k,es.drop 3))) a (some (2,[(ky es 0,.empty,(aB g t:Int)),(ky es 3,.empty,(q:Int))])) z=some d':=s;show upd (upd (upd g.n q (some (k,es.drop 3))) (aB g t) (some (k,es.take 3))) a _ z=some d'
      by_cases e1:z=a
      ·rw[e1,aE]at y |-;exact y
      ·rw[aC _ _ e1]at y |-
       by_cases e2:z=aB g t
       ·rw[e2,aC _ _ Lh,aE]at y
        rw[e2,aE];exact y
       ·rw[aC _ _ e2]
        by_cases e3:z=q
        ·rw[e3,aE]at y |-;exact y
        ·rw[aC _ _ e3,aC _ _ e2]at y
         rw[aC _ _ e3];exact y
     have pf:(setN (setN g q (k,es.drop 3)) (aB g t) (k,es.take 3)).n q=some (k,es.drop 3):=by
      show upd (upd g.n q _) (aB g t) _ q=_
      rw[aC _ _ (Ne.symm Lh),aE]
     have yj:(setN (setN g q (k,es.drop 3)) (aB g t) (k,es.take 3)).n (aB g t)=some (k,es.take 3):=aE _ _ _;have MM:(setN (setN g q (k,es.drop 3)) (aB g t) (k,es.take 3)).c.length=g.c.length:=rfl;have Og:(setN (setN g q (k,es.drop 3)) (aB g t) (k,es.take 3)).r=g.r:=rfl;have FA:((es.drop 3).getD 0 e0).1=ky es 3:=by rw[fF];rfl
     have Oz:((es.take 3).getD 0 e0).1=ky es 0:=by rw[fX _ _ _ (by omega)];rfl
     have iu:0 <(es.drop 3).length:=by rw[List.length_drop,H5.out];omega
     have Lp:0 <(es.take 3).length:=by rw[List.length_take,H5.out];omega
     have EL:=aA fun(w':World) (A':SA) (my:Sp w' S A' (growF g t (aB g t) k es 3 q a (ky es 0) (ky es 3)))=>lH (key:=key) (val:=val) (H+1) _ a [] none none wk2 p2 trivial trivial aw Ng NT w' S A' my;generalize setN (setN g q (k,es.drop 3)) (aB g t) (k,es.take 3)=O at *;generalize growF g t (aB g t) k es 3 q a (ky es 0) (ky es 3)=gs at *;generalize es.drop 3=dr at *;generalize es.take 3=tk at *;generalize ky es 0=n at *;generalize ky es 3=l at *;generalize aB g t=r at *;clear h L KC b3 wk2 p2 aw Ng NT D3 HT Mr Ms JR;go_wp2_with fail;refine Qk.out.mono ?_;rintro rr F ⟨rfl,⟨⟨b,o,ES⟩,xr⟩⟩;obtain⟨_,t7,t8,_⟩:=o.cells;obtain⟨aq,cpq,Cp,Td,_,_,Z,_⟩:=o.v.aq.at pf;obtain⟨ar,cpr,Lm,hrA,_,_,e2',_⟩:=o.v.aq.at yj;simp only at Cp Z Lm e2';obtain⟨gq,oq,cq',SW,Cc,E8⟩:=eG Cp iu;cases SW;obtain⟨gr',or',cr',Yr,FG,Nx⟩:=eG Lm Lp;cases Yr;obtain⟨y0,_,_⟩:=E8 F 0 rfl iu;obtain⟨x0,_,_⟩:=Nx F 0 rfl Lp;rw[FA]at y0;rw[Oz]at x0;simp only[Nat.zero_mul,Nat.add_zero]at x0 y0;have SS:(0:Int) <(dr.length:Int):=by omega
     have Z1:(0:Int) <(tk.length:Int):=by omega
     have WP:(q:Int) <(b.ns.length:Int):=by omega
     have Zo:(r:Int) <(b.ns.length:Int):=by omega
     have Hp:a<O.c.length:=by rw[MM];exact M
     have Z2:(t:Int) <(O.r.length:Int):=by rw[Og];omega
     have En:S≠b.ga:=o.box.ab o.v.aq.arr (by decide);obtain⟨B,hB⟩:=eZ (F.heap.size);obtain⟨w8,Hv⟩:=eZ (F.alloc (.cells #[.string n,.string {data:=#[]},iV r] 130));have T:=bAl Hv;have Dp:w8.heap.size=B+1:=by rw[<-Hv,<-hB];simp
     obtain⟨B2,RD⟩:=eZ (w8.heap.size);obtain⟨j,Iz⟩:=eZ (w8.alloc (.cells #[.string l,.string {data:=#[]},iV q] 130));have fi:=bAl Iz;have QC:j.heap.size=B+2:=by rw[<-Iz];simp;omega
     obtain⟨B3,RF⟩:=eZ (j.heap.size);have fe:=iNw Hv hB;have GW:=fe.of (fi.block _ fe.lt);have c9:=iNw Iz RD;have KT:=T.trans (fi.mono T.size);have Vp:=o.below T;have R2:=o.below KT;obtain⟨_,t78,_⟩:=Vp.cells;obtain⟨_,t79,t89,_⟩:=R2.cells;have e18:w8.cell? (aD b.ga (q*2+1))=some (sL gq oq dr.length cpq):=(T.cell (p:=aD b.ga _) o.v.aq.arr.lt).trans Z;have y08:w8.cell? (aD gq oq)=some (.string l):=(T.cell (p:=aD gq _) Cc).trans y0;have c0:j.cell? (aD B 0)=some (.string n):=GW.c rfl;have c1:j.cell? (aD B 1)=some (.string {data:=#[]}):=GW.c rfl;have c2:j.cell? (aD B 2)=some (iV r):=GW.c rfl;have c3:j.cell? (aD B2 0)=some (.string l):=c9.c rfl;have c4:j.cell? (aD B2 1)=some (.string {data:=#[]}):=c9.c rfl;have c5:j.cell? (aD B2 2)=some (iV q):=c9.c rfl;have Qc:=aA fun(w':World) (x:NV) (hb:Bl F w') (hx:NdR w' x (2,[(n,.empty,(r:Int)),(l,.empty,(q:Int))]))=>xi.out b w' x (o.below hb) hx;have H4:Hid (Frm (fun k=>k=A.ga\/k=A.gr) w F):=(((HF.out.trans (Frm.aa V)).trans (Frm.aa it)).trans (xr.wide fun k _ e=>.inl (e.trans HA.out.ga)));have Dx:Hid (SaS A b):=HA.out.trans ES;have Mc:=aA KT;have Pe:=aA R2;have ny:=aA (aI Dp QC);have Ja:B≠b.ga:=by have:=o.v.aq.arr.lt;omega
     have EV:B2≠b.ga:=by have:=o.v.aq.arr.lt;omega
     have Ug:=aA fun(w':World) (hb:Bl F w')=>(o.below hb).cells.2.2.1;clear Cp Lm E8 Nx xr ES C9 iu Lp MM FA Oz Og Vp R2 fe GW c9 T fi KT xi Dp QC;have G:=Pe.out.below ((bQ j.heap.size j).alloc (nR _) (.cells #[.string n,.string {data:=#[]},iV r,.string l,.string {data:=#[]},iV q] 130));obtain⟨k0,k1,iN,ie,jw,ix,Z3⟩:=G.wr Hp;have J9:=aNM j (n,.empty,(r:Int)) (l,.empty,(q:Int)) rfl;have DA:Bl F (j.alloc (.cells #[.string n,.string {data:=#[]},iV r,.string l,.string {data:=#[]},iV q] 130)):=Mc.out.alloc Mc.out.size _;rw[RF]at J9;obtain⟨c,Lr⟩:=eZ (j.alloc (.cells #[.string n,.string {data:=#[]},iV r,.string l,.string {data:=#[]},iV q] 130));have NZ:yE.Sl c (sL B3 0 2 2) [(n,.empty,(r:Int)),(l,.empty,(q:Int))]:=by rw[<-Lr];exact J9
     rw[Lr]at iN ie jw ix DA G;have U:NdR c ((2:Int),some (⟨B3,0,none⟩:Addr),2,2) (2,[(n,.empty,(r:Int)),(l,.empty,(q:Int))]):=⟨rfl,NZ,nR _⟩;obtain⟨Ni,NA⟩:=Qc.out c _ DA U;have Q5:=aA Ni;have QZ:Hid (Frm (fun k=>k=A.ga\/k=A.gr) w ((set2 c b.ga a (2,some ⟨B3,0,none⟩,2,2)).setCell (aD b.gr (t*2+1)) (iV a))):=(H4.out.trans (Frm.aa DA)).trans (NA.wide fun k _ e=>e.elim (fun e=>.inl (e.trans Dx.out.ga)) fun e=>.inr (e.trans Dx.out.gr));have v2:(set2 c b.ga a (2,some ⟨B3,0,none⟩,2,2)).drew.cell? (aD S 2)=some (sL b.gr 0 O.r.length (O.r.length+b.rj.length)):=(G.set2 Hp U).drew.cells.2.2.1;have v3:(set2 c b.ga a (2,some ⟨B3,0,none⟩,2,2)).drew.cell? (aD b.gr (t*2+1))=some (iV (O.r.getD t (0,0)).2):=((G.set2 Hp U).drew.v.root (t:=t) (show t<O.r.length by omega)).2;have v4:(set2 c b.ga a (2,some ⟨B3,0,none⟩,2,2)).drew.frozen? (aD b.gr (t*2+1))=false:=(G.set2 Hp U).drew.v.bp.frozen (t*2+1);have Tk:(c.setCell (aD b.ga (a*2)) (iV 2)).setCell (aD b.ga (a*2+1)) (sL B3 0 2 2)=set2 c b.ga a (2,some ⟨B3,0,none⟩,2,2):=rfl;have N:=bAl Lr;have KI:c.drew.cell? (aD S 1)=some (sL b.ga 0 b.ns.length (b.ns.length+b.nj.length)):=G.drew.cells.2.1;have J:B<j.heap.size/\B2<j.heap.size:=by have:=ny.out;omega
     have KJ:c.drew.cell? (aD B 0)=some (.string n):=(N.cell (p:=aD B _) J.1).trans c0;have KK:c.drew.cell? (aD B 1)=some (.string {data:=#[]}):=(N.cell (p:=aD B _) J.1).trans c1;have KL:c.drew.cell? (aD B 2)=some (iV r):=(N.cell (p:=aD B _) J.1).trans c2;have KM:c.drew.cell? (aD B2 0)=some (.string l):=(N.cell (p:=aD B2 _) J.2).trans c3;have KN:c.drew.cell? (aD B2 1)=some (.string {data:=#[]}):=(N.cell (p:=aD B2 _) J.2).trans c4;have KO:c.drew.cell? (aD B2 2)=some (iV q):=(N.cell (p:=aD B2 _) J.2).trans c5;have Pf:=aA (aI KI (aI KJ (aI KK (aI KL (aI KM (aI KN KO))))));have Xe:Hid (∀D E,((c.drew.setCell (aD b.ga (a*2)) D).setCell (aD b.ga (a*2+1)) E).drew.cell? (aD S 1)=some (sL b.ga 0 b.ns.length (b.ns.length+b.nj.length))/\((c.drew.setCell (aD b.ga (a*2)) D).setCell (aD b.ga (a*2+1)) E).drew.cell? (aD B 0)=some (.string n)/\((c.drew.setCell (aD b.ga (a*2)) D).setCell (aD b.ga (a*2+1)) E).drew.cell? (aD B 1)=some (.string {data:=#[]})/\((c.drew.setCell (aD b.ga (a*2)) D).setCell (aD b.ga (a*2+1)) E).drew.cell? (aD B 2)=some (iV r)/\((c.drew.setCell (aD b.ga (a*2)) D).setCell (aD b.ga (a*2+1)) E).drew.cell? (aD B2 0)=some (.string l)/\((c.drew.setCell (aD b.ga (a*2)) D).setCell (aD b.ga (a*2+1)) E).drew.cell? (aD B2 1)=some (.string {data:=#[]})/\((c.drew.setCell (aD b.ga (a*2)) D).setCell (aD b.ga (a*2+1)) E).drew.cell? (aD B2 2)=some (iV q)):=fun D E=>⟨cB En KI,cB Ja KJ,cB Ja KK,cB Ja KL,cB EV KM,cB EV KN,cB EV KO⟩;clear G Ni NA U NZ J9 DA KI KJ KK KL KM KN KO J N;go_wp2_with fail;go_region_held3 (fun W=>W.cell? (aD S 1)=some (sL b.ga 0 b.ns.length (b.ns.length+b.nj.length))/\W.cell? (aD B 0)=some (.string n)/\W.cell? (aD B 1)=some (.string {data:=#[]})/\W.cell? (aD B 2)=some (iV r)/\W.cell? (aD B2 0)=some (.string l)/\W.cell? (aD B2 1)=some (.string {data:=#[]})/\W.cell? (aD B2 2)=some (iV q)) (first | exact Pf.out | exact Xe.out _ _ | assumption | go_keep) ((fail));have Vd:Sp ((set2 c b.ga a (2,some ⟨B3,0,none⟩,2,2)).drew.setCell (aD b.gr (t*2+1)) (iV a)) S (b.setN a (2,some ⟨B3,0,none⟩,2,2)) gs:=Q5.out.drew;have ND:Frm (fun k=>k=A.ga\/k=A.gr) w ((set2 c b.ga a (2,some ⟨B3,0,none⟩,2,2)).drew.setCell (aD b.gr (t*2+1)) (iV a)):=QZ.out.trans (Frm.drew _ _);have Mi:=aA (EL.out _ _ Vd);have H6:=aA ND;clear Vd ND Tk;generalize (set2 c b.ga a (2,some ⟨B3,0,none⟩,2,2)).drew=w12 at *;obtain⟨w13,Tx⟩:=eZ (w12.setCell (aD b.gr (t*2+1)) (iV a));rw[Tx]at Mi H6;go_wp2_with fail;refine Mi.out.mono ?_;intro e w6 s;obtain⟨v,rfl⟩:=s.ret;have HZ:Hid (ZqP w S A (K.map Prod.fst) (.returned (.bool v)) w6):=by
      show ZqP _ _ _ _ _ _
      rw[I.out];exact s.toQ H6.out (Dx.out.trans (SaS.setN _ _ _))
     clear s;go_wp2;go_ret;exact HZ.out
  ·have vi:((es.length:Int) == 5)=false:=by rw[beq_eq_false_iff_ne];omega
   rw[vi];rw[if_neg Q]at h;have EL:=aA (lH (key:=key) (val:=val) H g r [] none none i p1 trivial trivial (by unfold sz;rw[u];simp only;omega) MC Bz.out w2 S A1 HX.out);clear Q vi gp;go_wp2_with fail;refine EL.out.mono ?_;intro e w6 s;obtain⟨v,rfl⟩:=s.ret;have HZ:Hid (ZqP w S A (K.map Prod.fst) (.returned (.bool v)) w6):=by
    show ZqP _ _ _ _ _ _
    rw[h.out];exact s.toQ HF.out HA.out
   clear s;go_wp2;go_ret;exact HZ.out
structure MkP(w:World)(S:Nat)(A:SA)(b:Nat)(k:Int)(l:List E3)(r:Ending)(w':World):Prop where
 ex:∃x:NV,r=.returned (.slice x.2.1 x.2.2.1 x.2.2.2)/\x.1=k/\NdR w' x (k,l)
 bk:Bl w w'
 s1:w'.cell? (aD S 1)=some (sL A.ga 0 A.ns.length (A.ns.length+A.nj.length))
 wr:∃k0 k1,w'.cell? (aD A.ga (b*2))=some k0/\w'.cell? (aD A.ga (b*2+1))=some k1/\w'.frozen? (aD A.ga (b*2))=false/\w'.frozen? (aD A.ga (b*2+1))=false
theorem Sp.made(h:Sp w S A f)(g:b<f.c.length){u:Value}(i:yE.Own w.heap.size w' u l)(e:Below w.heap.size w.drew w'):MkP w S A b k l (.returned u) w':=by
 obtain⟨x,rfl,c,d⟩:=i.nv k;have a:Bl w w':=(bQ _ w).drew.trans e;obtain⟨j,m,n,o,p,q,_⟩:=(h.below a).wr g;exact⟨⟨x,rfl,c,d⟩,a,(h.below a).cells.2.1,j,m,n,o,p,q⟩
theorem Sp.cy(h:Sp w S A f){v':Value}{fs:List E3}(i:yE.Sl w v es)(j:yE.Sl w v' fs)(e:es.length<=100)(a:fs.length<=100)(k:Int)(d:b<f.c.length):Calls Tryz.prog 90 #[v,v'] w.drew (MkP w S A b k (es++fs)):=by
 refine(mZ v v' es fs w.drew (i.below (bQ _ w).drew) (j.below (bQ _ w).drew) e a).mono ?_;rintro r w1 ⟨u,rfl,g,c⟩;exact h.made d g c
theorem Sp.bo(h:Sp w S A f)(j:yE.Sl w v es)(d:i<es.length)(e:es.length<=100)(k:Int)(c:b<f.c.length):Calls Tryz.prog 78 #[v,iV i] w.drew (MkP w S A b k (delE es i)):=by
 refine(uV v es i w.drew (j.below (bQ _ w).drew) d e).mono ?_;rintro r w1 ⟨u,rfl,g,a⟩;exact h.made c g a
theorem Sp.dk(h:Sp w S A f)(e:E3)(l:yE.Sl w v es)(d:i<es.length)(g:es.length<=100)(k:Int)(c:b<f.c.length):Calls Tryz.prog 76 #[v,iV i,.agg #[.string e.1,.string e.2.1,iV e.2.2]] w.drew (MkP w S A b k (es.set i e)):=by
 refine(eY v es i e w.drew (l.below (bQ _ w).drew) d g).mono ?_;rintro r w1 ⟨u,rfl,j,a⟩;exact h.made c j a
theorem Sp.ew(h:Sp w S A f)(e:E3)(l:yE.Sl w v es)(d:i<=es.length)(g:es.length<=100)(k:Int)(c:b<f.c.length):Calls Tryz.prog 91 #[v,iV i,.agg #[.string e.1,.string e.2.1,iV e.2.2]] w.drew (MkP w S A b k (insE es i e)):=by
 refine(oH v es i e w.drew (l.below (bQ _ w).drew) d g).mono ?_;rintro r w1 ⟨u,rfl,j,a⟩;exact h.made c j a
theorem Sp.di(h:Sp w S A f)(b:yE.Sl w v l)(hF:Frm (fun k=>k=A.ga) w w'):yE.Sl w' v l:=b.ae hF fun g cs a=>a.ab h.v.aq.arr (by decide)
theorem tB{c:Nat}{pes:List E3}(x:Nat)(d:Nd)(h:(mergeF g b c s k ces pes).n x=some d):(setN (setN g c (k,ces)) b (2,pes)).n x=some d:=by
 unfold mergeF at h;rw[cV]at h;split at h
 ·by_cases e:x=s
  ·rw[e,aE]at h;cases h
  ·rw[aC _ _ e]at h;exact h
 ·exact h
theorem qF(g:fZ)(b c s:Nat)(k:Int)(a d:List E3):(mergeF g b c s k a d).r=g.r:=by
 unfold mergeF letGo;split<;>rfl
theorem aNG{W:World}{g q:Nat}{x v0 v1:Value}(a:s≠q)(h:W.cell? (aD g (s*2+1))=some x):((W.setCell (aD g (q*2)) v0).setCell (aD g (q*2+1)) v1).drew.cell? (aD g (s*2+1))=some x:=by
 rw[jK _ _ _ _ _ (.inr ⟨by omega,by omega⟩)];exact h
structure Wd(g:fZ)(b:Nat)(es:List E3)(i j:Nat)(k:Int)(ces ses:List E3):Prop where
 ic:IC g
 ve:VE g
 br:g.r.length<=16
 ai:∀b d,g.n b=some d->d.2.length<=5
 hb:g.n b=some (2,es)
 hi:i<es.length
 hj:j<es.length
 hc:g.n (kd es i)=some (k,ces)
 hs:g.n (kd es j)=some (k,ses)
 bc:b≠kd es i
 bs:b≠kd es j
 cs:kd es i≠kd es j
 c2:ces.length=2
 s2:2<=ses.length
theorem oK{ses:List E3}(h:Wd g b es i (i+1) k ces ses)(h2:ses.length=2)(w:World)(S:Nat)(A:SA)(c:Sp w S A g):
  Calls Tryz.prog 77 #[pT S 0,iV b,iV i] w fun e w'=>e=.returned (.bool true)/\Zt w S A (mergeF g b (kd es i) (kd es (i+1)) k (ces++ses) (delE es (i+1))) w':=by
 have mq:=gW;have zq:=h.ai b _ h.hb;simp only at zq;have d5:=h.ic.lt h.hb;have N:=h.ic.lt h.hc;obtain⟨v0,_⟩:=h.ve.inner h.ic h.hb h.hi;obtain⟨v1,_⟩:=h.ve.inner h.ic h.hb h.hj;obtain⟨_,s1,_⟩:=c.cells;obtain⟨a,cp,G,y9,_,_,c1,_⟩:=c.v.aq.at h.hb;obtain⟨F,j,P,Kd,_,d0,d1,_⟩:=c.v.aq.at h.hc;obtain⟨m,o,ts,Tn,_,_,e1,_⟩:=c.v.aq.at h.hs;simp only at G c1 P d0 d1 ts e1;obtain⟨g0,o0,cc,he,vj,M⟩:=eG G (by have:=h.hi;omega);cases he;obtain⟨_,_,x2⟩:=M w i rfl h.hi;have au:g0≠A.ga:=by
  rcases G with⟨q,_⟩ | ⟨g',o',cap',xs,q,q1,_⟩
  ·cases q
  ·cases q;exact q1.ab c.v.aq.arr (by decide)
 rw[v0]at x2;obtain⟨B,hB⟩:=eZ (w.heap.size);obtain⟨w0,ng⟩:=eZ (w.alloc (.cells #[iV k,.slice F ces.length j] 96));have v:=bAl ng;have n:=iNw ng hB;obtain⟨_,_,y2⟩:=M w0 (i+1) (v.block _ vj) h.hj;rw[v1]at y2;have D:=c.below v;obtain⟨_,t1,_⟩:=D.cells;have t:w0.cell? (aD A.ga (kd es (i+1)*2+1))=some (.slice m ses.length o):=(v.cell (p:=aD A.ga _) c.v.aq.arr.lt).trans e1;have b0:w0.cell? (aD B 0)=some (iV k):=n.c rfl;have b1:w0.cell? (aD B 1)=some (.slice F ces.length j):=n.c rfl;have ym:S≠A.ga:=c.box.ab c.v.aq.arr (by decide);have Aq:B≠A.ga:=by have:=c.v.aq.arr.lt;omega
 have Fz:(b:Int) <(A.ns.length:Int):=by omega
 have Gu:(kd es i:Int) <(A.ns.length:Int):=by omega
 have Hk:(kd es (i+1):Int) <(A.ns.length:Int):=by omega
 have LG:(i:Int) <(es.length:Int):=by have:=h.hi;omega
 obtain⟨l,O⟩:=eZ (i+1);have yt:IntKind.i64.wrap ((i:Int)+1)=(l:Int):=(IntWalk.i64_in _ ⟨by omega,by omega⟩).trans (by omega);have Sv:(l:Int) <(es.length:Int):=by have:=h.hj;omega
 have mr:((ses.length:Int) == 2)=true:=by rw[h2];rfl
 have L:=aA (D.cy (P.below v) (ts.below v) (by have:=h.c2;omega) (by omega) k N);have J:=aA fun(A1:SA) (f1:fZ) (w1:World) (h1:Sp w1 S A1 f1) (hF:Frm (fun k=>k=A.ga) w w1) (hl:b<f1.c.length)=>h1.bo (c.di G hF) h.hj (by omega) 2 hl;have ny:=aA D;have GP:=aA v;have H:Hid (kd es (i+1)≠kd es i):=h.cs.symm;have E:Hid (∀w1,Bl w0 w1->w1.cell? (aD B 0)=some (iV k)/\w1.cell? (aD B 1)=some (.slice F ces.length j)/\w1.cell? (aD A.ga (kd es (i+1)*2+1))=some (.slice m ses.length o)):=fun w1 R=>by
  refine⟨?_,?_,?_⟩
  ·rw[(n.of (R.block _ n.lt)).cell];rfl
  ·rw[(n.of (R.block _ n.lt)).cell];rfl
  ·exact(R.cell (p:=aD A.ga _) D.v.aq.arr.lt).trans t
 rw[O]at y2 t Hk J H E;rw[O];obtain⟨q,T⟩:=eZ (kd es i);obtain⟨s,U⟩:=eZ (kd es l);rw[T]at x2 d0 d1 Gu L H N;rw[U]at y2 t Hk H E;rw[T,U];clear M P ts n D v0 v1 T U O h2;go_enter Tryz.func77,Tryz.ntmps77;go_wp2;go_region_held3 (fun W=>W.cell? (aD S 1)=some (sL A.ga 0 A.ns.length (A.ns.length+A.nj.length))/\W.cell? (aD B 0)=some (iV k)/\W.cell? (aD B 1)=some (.slice F ces.length j)/\W.cell? (aD A.ga (s*2+1))=some (.slice m ses.length o)) (first | assumption | go_keep | exact⟨u,Q,xt,K⟩ | exact⟨cB ym u,cB Aq Q,cB Aq xt,aNG H.out K⟩) ((go_at_call 90;refine L.out.mono ?_;rintro r w1 ⟨⟨y,rfl,Dv,Ad⟩,ao,u,k0,k1,V,X,Z,Y⟩;obtain⟨Q,xt,K⟩:=E.out w1 ao));rw[dM Dv];obtain⟨⟨f,C,D4⟩,dz⟩:=ny.out.store ao N Ad;have I:Frm (fun k=>k=A.ga) w (set2 w1 A.ga q y):=(Frm.aa GP.out).trans dz;have JT:=aA (J.out f _ _ C I (show b<g.c.length from d5));have sq:=aA I;have pq:=aA C;have t2:=C.cells.2.1;have J8:S≠f.ga:=by rw[D4.ga];exact ym
 have R5:(b:Int) <(f.ns.length:Int):=by have:=C.v.ln;have:f.ns.length=g.c.length:=this;omega
 have xi:Hid (∀x d,(mergeF g b q s k (ces++ses) (delE es l)).n x=some d->(setN (setN g q (k,ces++ses)) b (2,delE es l)).n x=some d):=fun x d hx=>tB x d hx;have Ah:Hid (Fin (setN g q (k,ces++ses)) (mergeF g b q s k (ces++ses) (delE es l)) b (2,delE es l)):=⟨xi.out,(aZ.mergeF ..).c,qF ..,(aZ.mergeF ..).next,(aZ.mergeF ..).gen,(aZ.mergeF ..).m⟩;generalize set2 w1 A.ga q y=w2 at *;clear u Q xt K V X Z Y Ad dz I C J E L;go_wp2;go_region_held3 (fun W=>W.cell? (aD S 1)=some (sL f.ga 0 f.ns.length (f.ns.length+f.nj.length))) (first | assumption | go_keep | exact cB J8 u) ((go_at_call 78;refine JT.out.mono ?_;rintro r w3 ⟨⟨z,rfl,Bv,Hx⟩,bg,u,k0,k1,V,X,Z,Y⟩));rw[dM Bv];have HR:Hid (Zt w S A (mergeF g b q s k (ces++ses) (delE es l)) (set2 w3 f.ga b z)):=Zt.trans sq.out D4 (pq.out.fin bg (show b<g.c.length from d5) Hx Ah.out);clear u V X Z Y;go_wp2;go_ret;exact⟨rfl,HR.out⟩
