import Derived.Deep.DeepCutAuto
import Derived.Test.YtmpagpeenjddgaaGreatSq2
set_option maxHeartbeats 9999999
set_option maxRecDepth 99999
set_option linter.all false
namespace Go.Proofs.YtmpagpeenjddgaaGreat
open Go.RowKit Fo
variable{key val:ByteArray}{e:Ending}{k:Int}{ces es l:List E3}{H S b i s t:Nat}{r:Option fZ}{A A1:SA}{v:Value}{w w' w1 w2:World}{f g:fZ}
structure Fin(f' g:fZ)(b:Nat)(d:Nd):Prop where
 sub:∀x d',g.n x=some d'->(setN f' b d).n x=some d'
 len:g.c.length=f'.c.length
 r:g.r=f'.r
 next:g.next=f'.next
 gen:g.gen=f'.gen
 m:g.m=f'.m
theorem Sp.fin{f':fZ}(h:Sp w S A f')(f:Bl w w1)(i:b<f'.c.length){x:NV}{d:Nd}(hx:NdR w1 x d)(k:Fin f' g b d):Zt w S A g (Go.Proofs.YtmpagpeenjddgaaGreat.set2 w1 A.ga b x):=by
 obtain⟨⟨A',a,c⟩,e⟩:=h.store f i hx;exact⟨⟨A',a.sub k.sub k.len k.r k.next k.gen k.m,c⟩,e⟩
theorem Zt.trans(hF:Frm (fun k=>k=A.ga) w w1)(b:SaS A A1)(h:Zt w1 S A1 g w2):Zt w S A g w2:=by
 obtain⟨⟨c,d,e⟩,a⟩:=h;rw[b.ga]at a;exact⟨⟨c,d,b.trans e⟩,hF.trans a⟩
theorem ZpP.trans(hF:Frm (fun k=>k=A.ga) w w1)(a:SaS A A1)(h:ZpP w1 S A1 r e w2):ZpP w S A r e w2:=
 ⟨fun q=>⟨(h.no q).1,by have:=(h.no q).2;rw[a.ga]at this;exact hF.trans this⟩,fun g q=>⟨(h.yes g q).1,Zt.trans hF a (h.yes g q).2⟩⟩
theorem ZpP.ret(h:ZpP w S A r e w2):∃v,e=.returned (.bool v):=by
 cases r with
 | none=>exact⟨_,(h.no rfl).1⟩
 | some g=>exact⟨_,(h.yes g rfl).1⟩
structure ZsP(w:World)(S:Nat)(A:SA)(f:fZ)(b i:Nat)(es:List E3)(r:Ending)(w':World):Prop where
 ae:Frm (fun k=>k=A.ga) w w'
 no:shadow f (.ai b i)=none->r=.returned (.int .i64 (-1))
 yes:∀g c,shadow f (.ai b i)=some (g,c)->r=.returned (.int .i64 c)/\∃A' f',Sp w' S A' f'/\SaS A A'/\f'.c.length=f.c.length/\Fin f' g b (2,es.set i (ky es i,.empty,(c:Int)))
theorem iH(n:IC f)(z:∀b d,f.n b=some d->d.2.length<=10)(C:VE f)(w:World)(S:Nat)(A:SA)(h:Sp w S A f)(E:f.r.length<=16)(b i:Nat)(es:List E3)(m:f.n b=some (2,es))(t:i<es.length):
  Calls Tryz.prog 69 #[.pointer (some ⟨S,0,none⟩),.int .i64 (kd es i)] w (ZsP w S A f b i es):=by
 obtain⟨d,s⟩:=n.af m (aQ t);refine(oI n z w S A h E (kd es i) d s).mono ?_;intro r w' p;rcases tX n C m t s with⟨j,a,D⟩ | ⟨j,o,a⟩ | ⟨j,o,g,a,v,k,y⟩
 ·obtain⟨rfl,l⟩:=p.own j
  refine⟨Frm.aa l,fun q=>(by rw[a]at q;cases q),fun g c q=>?_⟩;rw[a]at q;cases q;refine⟨rfl,A,f,h.below l,SaS.refl _,rfl,fun x d' u=>?_,rfl,rfl,rfl,rfl,rfl⟩;rw[D];show upd f.n b (some (2,es)) x=some d'
  by_cases e:x=b
  ·rw[e,aD,<-m,<-e];exact u
  ·rw[aC _ _ e];exact u
 ·obtain⟨rfl,l⟩:=p.no j o
  exact⟨Frm.aa l,fun _=>rfl,fun g c q=>by rw[a]at q;cases q⟩
 ·obtain⟨rfl,B,hF⟩:=p.yes j o
  refine⟨hF,fun q=>(by rw[a]at q;cases q),fun g' c q=>?_⟩;rw[a]at q;cases q;exact⟨rfl,_,_,B,SaS.setN _ _ _,rfl,y,k.c,v,k.next,k.gen,k.m⟩
structure Ct1(w:World)(S:Nat)(A:SA)(f1:fZ)(es1:List E3)(s9:Value)(wx:World):Prop where
 ex:∃A1,Sp wx S A1 f1/\SaS A A1
 ae:Frm (fun k=>k=A.ga) w wx
 sl:yE.Sl wx s9 es1
theorem uS{P:List Nat}{h:Nat}{lo hi:OB}(wk:Wk f t H)(p:aN f t H P b (h+1) lo hi)(hl:loR lo key)(hh:hiR hi key)(h5:sz f.n b<5)(hV:VE f)(jy:f.r.length<=16)
  (ih:∀(g:fZ) (c:Nat) (P':List Nat) (lo' ap:OB),Wk g t H->aN g t H P' c h lo' ap->loR lo' key->hiR ap key->sz g.n c<5->VE g->g.r.length<=16->∀(w:World) (S:Nat) (A:SA),Sp w S A g->Calls Tryz.prog 72 #[.pointer (some ⟨S,0,none⟩),.int .i64 c,.string key,.string val] w (ZpP w S A ((putAt h g c key val).map Prod.fst)))
  (w:World) (S:Nat) (A:SA) (Z:Sp w S A f):Calls Tryz.prog 72 #[.pointer (some ⟨S,0,none⟩),.int .i64 b,.string key,.string val] w (ZpP w S A ((putAt (h+1) f b key val).map Prod.fst)):=by
 have sv:=gY;have GX:=jC;obtain⟨es,M,ue,aw⟩:=p.inner wk;have ai:es.length<=5:=wk.ai M;have eX:=wk.ic.lt M;have cq:0<es.length:=List.length_pos_iff.2 aw;obtain⟨s,p1,_⟩:=wk.bu p M key hl;obtain⟨v0,v1⟩:=hV.inner wk.ic M cq;obtain⟨_,s1,_⟩:=Z.cells;obtain⟨a,c,ee,yq,Av,c0,c1,qr⟩:=Z.v.aq.at M;simp only at ee c0 c1;have xt:S≠A.ga:=Z.box.ab Z.v.aq.arr (by decide);have Fe:(b:Int) <(A.ns.length:Int):=by omega
 have Zr:(0:Int) <(es.length:Int):=by omega
 have HL:=aA (aI hl hh);have m:Hid (putAt (h+1) f b key val=match stepDown f b key with
  | none=>none
  | some (g,c)=>putAt h g c key val):=rfl
 have xd:=aA (qH M key);rw[xd.out]at m;have HK:Hid (lowK es key=if kl key (ky es 0)=true then es.set 0 (key,(es.getD 0 e0).2)else es):=rfl;have Dr:VE (setN f b (2,lowK es key)):=hV.setN b (VL.lowK (hV b _ M) key);have zy:=Z.ck (.slice a es.length c) es 0 (key,.empty,(kd es 0:Int)) ee cq (by omega) 2 eX;obtain⟨g0,o0,cc,he,uv,af⟩:=eG ee cq;cases he;obtain⟨x0,x1,x2⟩:=af w 0 rfl cq;rw[v0]at x0 x1 x2;simp only[Nat.zero_mul,Nat.add_zero]at x0 x1 x2;have HQ:Hid (ky es 0=ky es 0):=rfl;have HB:Hid (kl key (ky es 0)=Op.bytesLess key.toList (ky es 0).toList):=rfl;clear af;generalize putAt (h+1) f b key val=O at *;have nh:=aA Z;have BG:=aA ee;go_enter Tryz.func72,Tryz.ntmps72;go_upto_if 86 with fail
 go_cut [9] (fun s9 wx=>Ct1 w S A (setN f b (2,lowK es key)) (lowK es key) s9 wx)
 case first=>
  by_cases hk:kl key (ky es 0)=true
  ·have sd:Op.bytesLess key.toList (ky es 0).toList=true:=hk
   have On:Hid (lowK es key=es.set 0 (key,.empty,(kd es 0:Int))):=by show lowK es key=_;rw[HK.out,if_pos hk,v0]
   have C4:Hid (Calls Tryz.prog 76 #[.slice (some ⟨g0,o0,none⟩) es.length c,.int .i64 0,.agg #[.string key,.string .empty,.int .i64 (kd es 0)]] w fun r w'=>∃u,r=.returned u/\yE.Own w.heap.size w' u (es.set 0 (key,.empty,(kd es 0:Int)))/\Bl w w'):=eU _ es 0 (key,.empty,(kd es 0:Int)) w BG.out cq (by omega);rw[sd];clear hk zy sd;go_wp2_with fail;refine C4.out.mono ?_;rintro r w1 ⟨u,rfl,hu,au⟩;obtain⟨x,rfl,wv,BB⟩:=hu.nv 2;have N:=nh.out.below au;obtain⟨k0,B,gz,gh,jq,im,_⟩:=N.wr eX;obtain⟨_,t1,_⟩:=N.cells;have HR:=aA (nh.out.store au eX BB);have HX:Hid (yE.Sl w1 (.slice x.2.1 x.2.2.1 x.2.2.2) (es.set 0 (key,.empty,(kd es 0:Int)))):=hu.sl;clear N;go_wp2;rw[dM wv];go_meet;rw[On.out];obtain⟨⟨A1,E,q2⟩,q3⟩:=HR.out;exact⟨⟨A1,E,q2⟩,q3,HX.out.ae (eK w1 A.ga b x) fun g cs T=>T.ab (nh.out.below au).v.aq.arr (by decide)⟩
  ·have sd:Op.bytesLess key.toList (ky es 0).toList=false:=Bool.eq_false_iff.2 hk
   have On:Hid (lowK es key=es):=by show lowK es key=_;rw[HK.out,if_neg hk]
   rw[sd];clear hk zy sd;go_wp2_with fail;go_meet;rw[On.out];refine⟨⟨A,nh.out.sub (fun x d' hx=>?_) rfl rfl rfl rfl rfl,SaS.refl _⟩,Frm.refl _ _,BG.out⟩;have bz:upd f.n b (some (2,es)) x=some d':=hx;by_cases e:x=b
   ·rw[e,aD]at bz;rw[e,M];exact bz
   ·rw[aC _ _ e]at bz;exact bz
 case rest=>
  obtain⟨⟨A1,N,C6⟩,ij,ko⟩:=hcut;have fg:(setN f b (2,lowK es key)).n b=some (2,lowK es key):=aD _ _ _;have ei:(lowK es key).length=es.length:=cN es key;obtain⟨_,E,zn,mr⟩:=p1.inner s;rw[fg]at E;cases E;have N9:(setN f b (2,lowK es key)).r.length<=16:=jy;have DO:(setN f b (2,lowK es key)).c.length=f.c.length:=rfl;have EJ:=fun b' d' (ft:(setN f b (2,lowK es key)).n b'=some d')=>(by have:=s.ai ft;omega:d'.2.length<=10);generalize lowK es key=j at *;generalize setN f b (2,j)=f1 at *;have Io:=aA (sF zn.a6 key);have R:=eJ key mr;obtain⟨v1,_⟩:=Dr.inner s.ic fg R;obtain⟨va,vc,rfl⟩:=ko.len;obtain⟨g1,o1,cc1,Eu,li,vp⟩:=eG ko (by omega);cases Eu;have CG:=vP (.slice (some ⟨g1,o1,none⟩) j.length vc) j key wc ko (by omega);rw[Io.out]at CG;have SN:j.length<=5:=by omega
  have D5:=aA (aI ei DO);clear ei DO;generalize bI j key=i at *;obtain⟨x0,x1,x2⟩:=vp wc i rfl R;rw[v1]at x0 x1 x2;have SB:(i:Int) <(j.length:Int):=by omega
  have zx:=aA (iH s.ic EJ Dr wc S A1 N N9 b i j fg R);have WI:=m;have Tw:Hid (∀g c,stepDown f b key=some (g,c)->∃P' lo' ap,Wk g t H/\aN g t H P' c h lo' ap/\loR lo' key/\hiR ap key/\sz g.n c<5/\aX f g):=fun g c q=>by
   obtain⟨P',lo',ap,B,C,J,K,D,_,k6⟩:=wk.stepDown p HL.out.1 HL.out.2 h5 q;exact⟨P',lo',ap,B,C,J,K,D,k6⟩
  have AR:=aA ij;have Pi:=aA C6;clear zy v0 v1 hV HK HQ HB ij C6 vp;go_wp2_with fail;refine CG.mono ?_;rintro r w2 ⟨rfl,rfl⟩;go_wp2_with fail;refine zx.out.mono ?_;intro r F o;obtain⟨br,we,wg⟩:=o;cases Q:shadow f1 (.ai b i)with
  | none=>
   obtain rfl:=we Q;have HP:Hid (O=none):=by show O=none;rw[m.out];rw[Q]
   clear we wg Q;go_wp2;go_ret;rw[HP.out];exact⟨fun _=>⟨rfl,AR.out.trans (by have:=br;rw[Pi.out.ga]at this;exact this)⟩,fun g q=>by cases q⟩
  | some gc=>
   obtain⟨g,c⟩:=gc;obtain⟨rfl,Y,f3,db,Bg,BT,bp⟩:=wg g c Q;obtain⟨l,_,p3,⟨es2,m1,m2,m3,m4⟩,m5,m6,m7,_,m9⟩:=s.aj p1 fg R Q;have ub:=Dr.aj s.ic fg R Q;rw[Q]at m xd;obtain⟨es',y8⟩:=eZ (j.set i (ky j i,.empty,(c:Int)));rw[y8]at bp;have ol:g.n b=some (2,es'):=by
    have:=bp.sub b _ m1
    have e:(setN f3 b (2,es')).n b=some (2,es'):=aD _ _ _;rw[e]at this;rw[m1];exact this.symm
   obtain⟨⟨k,d⟩,I⟩:=l.ic.live (x:=c) (by rw[m6];omega);have av:=l.ai I;have y7:=l.ai ol;simp only at av y7;have Ef:b<f3.c.length:=by rw[BT,D5.out.2];exact eX
   have mu:yE.Sl F (.slice (some ⟨g1,o1,none⟩) j.length vc) j:=ko.ae br fun g cs T=>T.ab N.v.aq.arr (by decide);obtain⟨y0,y1,y2⟩:F.cell? ⟨g1,o1+i*3,none⟩=some (.string (ky j i))/\F.cell? ⟨g1,o1+i*3+1,none⟩=some (.string .empty)/\F.cell? ⟨g1,o1+i*3+2,none⟩=some (.int .i64 (kd j i)):=by
    have aw:g1≠A1.ga:=by
     rcases ko with⟨q,_⟩ | ⟨g',o',cap',xs,q,E,_⟩
     ·cases q
     ·cases q;exact E.ab N.v.aq.arr (by decide)
    have hw:∀k,F.cell? ⟨g1,k,none⟩=w2.cell? ⟨g1,k,none⟩:=fun k=>by simp[World.cell?,br.block g1 li aw]
    exact⟨(hw _).trans x0,(hw _).trans x1,(hw _).trans x2⟩
   have Ix:Hid (Calls Tryz.prog 76 #[.slice (some ⟨g1,o1,none⟩) j.length vc,.int .i64 i,.agg #[.string (ky j i),.string .empty,.int .i64 c]] F fun r w'=>∃u,r=.returned u/\yE.Own F.heap.size w' u es'/\Bl F w'):=by
    rw[<-y8];exact eU _ j i (ky j i,ByteArray.empty,(c:Int)) F mu R (by omega)
   have AH:¬((c:Int)<0):=by omega
   have LV:Hid (es'.length=j.length):=by show es'.length=_;rw[<-y8,List.length_set]
   have Ip:Hid (Frm (fun k=>k=A.ga) w F):=AR.out.trans (by have:=br;rw[Pi.out.ga]at this;exact this);have L2:Hid (SaS A Y):=Pi.out.trans Bg;have Bb:Hid (g.r.length<=16):=by show g.r.length<=16;rw[m9.len];exact N9
   have LW:Hid (g.c.length=f3.c.length):=bp.len;clear we wg ko N y8 m1 m3 m4 m5 m7 m9 EJ CG zx br Bg BT x0 x1 x2 mu;go_wp2_with fail;refine Ix.out.mono ?_;rintro r w4 ⟨u,rfl,hu,fw⟩;obtain⟨x,rfl,wv,BB⟩:=hu.nv 2;have ax:=db.below fw;obtain⟨k0,B,gz,gh,jq,im,RF⟩:=ax.wr Ef;obtain⟨_,t1,_⟩:=ax.cells;obtain⟨⟨A5,de,xe⟩,eu⟩:=db.fin fw Ef BB bp;have Db:yE.Sl (set2 w4 Y.ga b x) (.slice x.2.1 x.2.2.1 x.2.2.2) es':=hu.sl.ae (eK w4 Y.ga b x) fun g cs T=>T.ab ax.v.aq.arr (by decide);have um:Hid (Frm (fun k=>k=A.ga) w (set2 w4 Y.ga b x)):=Ip.out.trans (eu.wide fun k _ e=>e.trans L2.out.ga);have G9:Hid (SaS A A5):=L2.out.trans xe;have I0:=aA de;have tg:=dM (w:=w4) (g:=Y.ga) (q:=b) wv;obtain⟨w5,OY⟩:=eZ (set2 w4 Y.ga b x);rw[OY]at de Db um I0 tg;obtain⟨_,t5,_⟩:=de.cells;obtain⟨ac,cpc,gk,Fg,_,d0,d1,Ep⟩:=de.v.aq.at I;simp only at gk d0 d1 Ep;have GZ:(c:Int) <(A5.ns.length:Int):=by omega
   clear ax fw eu xe BB hu db OY de;go_upto_if 142 with fail
   clear tg;by_cases og:d.length=5
   ·have uu:((d.length:Int) == 5)=true:=by rw[og];rfl
    have H5:=aA og;rw[uu];clear og uu;have JG:=fun b' d' (ft:g.n b'=some d')=>(by have:=l.ai ft;omega:d'.2.length<=10);have HT:=aA (nD g);have ML:=aA (mZ l.ic (l.ic.counts Bb.out JG) JG w5 S A5 I0.out (by have:=Bb.out;omega) (-1));clear JG gk;go_wp2_with fail;refine ML.out.mono ?_;rintro r X ⟨rfl,kh⟩;rw[HT.out];rw[aE I,aE ol]at m;simp only at m;rw[if_pos H5.out]at m;by_cases n:aF g=0
    ·rw[if_pos n]
     rw[if_pos n]at m;have HP:Hid (O=none):=m.out;clear n m;go_wp2;go_ret;rw[HP.out];exact⟨fun _=>⟨rfl,um.out.trans (Frm.aa kh)⟩,fun g q=>by cases q⟩
    ·rw[if_neg n]
     rw[if_neg n]at m;obtain⟨l1,l2,l3,l4⟩:=aO n;have Iv:Hid (stepDown f b key=some (splitF g b es' i c k d 3 (aF g) (ky d 3),if kl key (ky d 3)=true then c else aF g)):=by
      show stepDown f b key=_
      rw[xd.out,aE I,aE ol];exact(if_pos H5.out).trans (if_neg n)
     have UV:O=putAt h (splitF g b es' i c k d 3 (aF g) (ky d 3)) (if kl key (ky d 3)=true then c else aF g) key val:=m.out;have Ov:=aA UV;obtain⟨P',lo',ap,B,C,J,K,D,k6⟩:=Tw.out _ _ Iv.out;have M7:VE (splitF g b es' i c k d 3 (aF g) (ky d 3)):=ub.splitF b (ub b _ ol) i c k (ub c _ I) 3 (aF g) (ky d 3);have Ag:c≠aF g:=fun e=>by rw[e]at m6;omega
     have qo:b≠aF g:=fun e=>by have:=l.ic.a1 ol;rw[e]at this;omega
     have My:(splitF g b es' i c k d 3 (aF g) (ky d 3)).r.length<=16:=Bb.out;have GV:=I0.out.below kh;have P6:=aA (sV X S A5 GV c (aF g) k d I H5.out (l.ic.lt I) l2 Ag);have FB:=Db.below kh;have qz:Fin (setN (setN g (aF g) (k,d.drop 3)) c (k,d.take 3)) (splitF g b es' i c k d 3 (aF g) (ky d 3)) b (2,insE es' (i+1) (ky d 3,.empty,(aF g:Int))):=by
      refine⟨fun z d' o=>?_,by simp[splitF,setN,takeAt],rfl,rfl,rfl,rfl⟩;have L:upd (upd (upd g.n c (some (k,d.take 3))) (aF g) (some (k,d.drop 3))) b (some (2,insE es' (i+1) (ky d 3,.empty,(aF g:Int)))) z=some d':=o;show upd (upd (upd g.n (aF g) (some (k,d.drop 3))) c (some (k,d.take 3))) b _ z=some d'
      by_cases e1:z=b
      ·rw[e1,aD]at L |-;exact L
      ·rw[aC _ _ e1]at L |-
       by_cases e2:z=c
       ·rw[e2,aC _ _ Ag,aD]at L
        rw[e2,aD];exact L
       ·rw[aC _ _ e2]
        by_cases e3:z=aF g
        ·rw[e3,aD]at L |-;exact L
        ·rw[aC _ _ e3,aC _ _ e2]at L
         rw[aC _ _ e3];exact L
     have oo:(setN (setN g (aF g) (k,d.drop 3)) c (k,d.take 3)).n (aF g)=some (k,d.drop 3):=by
      show upd (upd g.n (aF g) _) c _ (aF g)=_
      rw[aC _ _ (Ne.symm Ag),aD]
     have Lr:(setN (setN g (aF g) (k,d.drop 3)) c (k,d.take 3)).c.length=g.c.length:=rfl;have Et:ky (d.drop 3) 0=ky d 3:=by unfold ky;rw[fA]
     have ik:(d.drop 3).length=2:=by rw[List.length_drop,H5.out]
     have Ll:b<g.c.length:=l.ic.lt ol;generalize setN (setN g (aF g) (k,d.drop 3)) c (k,d.take 3)=g7 at *;generalize splitF g b es' i c k d 3 (aF g) (ky d 3)=gs at *;generalize d.drop 3=dr at *;generalize ky d 3=first at *
     generalize aF g=q at *;have fj:i+1<=es'.length:=by rw[LV.out];exact R
     clear UV m n;go_wp2_with fail;refine P6.out.mono ?_;rintro r w7 ⟨rfl,⟨⟨G,U,EC⟩,xg⟩⟩;obtain⟨_,t7,_⟩:=U.cells;obtain⟨aq,cpq,CU,Sq,_,e0',e1',_⟩:=U.v.aq.at oo;simp only at CU e0' e1';obtain⟨gq,oq,cq',Ri,CI,Er⟩:=eG CU (by omega);cases Ri;obtain⟨f0,_,_⟩:=Er w7 0 rfl (by omega);have Uz:(dr.getD 0 e0).1=first:=Et
     rw[Uz]at f0;simp only[Nat.zero_mul,Nat.add_zero]at f0;have Rf:(0:Int) <(dr.length:Int):=by omega
     have VP:(q:Int) <(G.ns.length:Int):=by omega
     have FC:yE.Sl w7 (.slice x.2.1 x.2.2.1 x.2.2.2) es':=FB.ae xg fun g cs T=>T.ab GV.v.aq.arr (by decide);have J8:b<g7.c.length:=by rw[Lr];exact Ll
     obtain⟨_,_,_,_,_,_,NC⟩:=U.wr J8;have EW:S≠G.ga:=U.box.ab U.v.aq.arr (by decide);obtain⟨i1,Nk⟩:=eZ (i+1);have yc:IntKind.i64.wrap ((i:Int)+1)=(i1:Int):=(IntWalk.i64_in _ ⟨by omega,by omega⟩).trans (by omega);rw[Nk]at qz fj;have P8:=aA (U.b7 (.slice x.2.1 x.2.2.1 x.2.2.2) es' i1 (first,.empty,(q:Int)) FC fj (by omega) 2 J8);have Ha:Hid (Frm (fun k=>k=A.ga) w w7):=(um.out.trans (Frm.aa kh)).trans (xg.wide fun k _ e=>e.trans G9.out.ga);have Dh:Hid (SaS A G):=G9.out.trans EC;have WV:=aA U;clear FC CU Er Uz xg EC GV FB ik Lr Et Nk;go_wp2;go_region_held3 (fun W=>W.cell? ⟨S,1,none⟩=some (.slice (some ⟨G.ga,0,none⟩) G.ns.length (G.ns.length+G.nj.length))) (first | assumption | go_keep | exact bY EW dm) ((go_at_call 91;refine P8.out.mono ?_;rintro r w8 ⟨y,rfl,Df,AO,o8,dm,kk0,kk1,gz,gh,jq,im⟩));rw[dM Df];obtain⟨⟨A9,q7,MT⟩,xr⟩:=WV.out.fin o8 J8 AO qz;have Tg:Hid (Frm (fun k=>k=A.ga) w (set2 w8 G.ga b y)):=Ha.out.trans (xr.wide fun k _ e=>e.trans Dh.out.ga);have TS:Hid (SaS A A9):=Dh.out.trans MT;have O0:=aA q7;generalize set2 w8 G.ga b y=w9 at *;clear dm gz gh jq im xr MT q7 AO o8;by_cases V:kl key first=true
     ·have E:Op.bytesLess key.toList first.toList=true:=V
      have q2:Op.bytesLess first.toList key.toList=false:=fJ (a:=key) (b:=first) V
      have q3:(key.toList == first.toList)=false:=by
       rw[beq_eq_false_iff_ne];intro e;rw[e,pI]at E;cases E
      rw[if_pos V]at Ov C D;have D3:=aA (ih gs c P' lo' ap B C J K D M7 My w9 S A9 O0.out);clear V B C J K D;go_wp2_with fail;refine D3.out.mono ?_;intro e X o;obtain⟨v,rfl⟩:=o.ret;have HZ:Hid (ZpP w S A (O.map Prod.fst) (.returned (.bool v)) X):=by
       show ZpP _ _ _ _ _ _
       rw[Ov.out];exact ZpP.trans Tg.out TS.out o
      clear o;go_wp2;go_ret;exact HZ.out
     ·have E:Op.bytesLess key.toList first.toList=false:=Bool.eq_false_iff.2 V
      rw[if_neg V]at Ov C D;have D3:=aA (ih gs q P' lo' ap B C J K D M7 My w9 S A9 O0.out);clear B C J K D;have ot:(Op.bytesLess first.toList key.toList=true\/(key.toList == first.toList)=true):=by
       rcases lH (a:=key) (b:=first) E with e | e
       ·exact .inr (by rw[e];exact beq_self_eq_true _)
       ·exact .inl e
      clear V;rcases ot with q2 | q3
      case' inl=>skip
      case' inr=>
       have q2:Op.bytesLess first.toList key.toList=false:=by
        have:key.toList=first.toList:=by simpa using q3
        rw[this];exact pI _
      all_goals (
       go_wp2_with fail
       refine D3.out.mono ?_;intro e X o;obtain⟨v,rfl⟩:=o.ret;have HZ:Hid (ZpP w S A (O.map Prod.fst) (.returned (.bool v)) X):=by
        show ZpP _ _ _ _ _ _
        rw[Ov.out];exact ZpP.trans Tg.out TS.out o
       clear o;go_wp2;go_ret;exact HZ.out)
   ·have uu:((d.length:Int) == 5)=false:=by rw[beq_eq_false_iff_ne];omega
    have Iv:Hid (stepDown f b key=some (g,c)):=by
     show stepDown f b key=_
     rw[xd.out,aE I];exact if_neg og
    rw[aE I]at m;simp only at m;rw[if_neg og]at m;obtain⟨P',lo',ap,B,C,J,K,D,_⟩:=Tw.out g c Iv.out;have D3:=aA (ih g c P' lo' ap B C J K D ub Bb.out w5 S A5 I0.out);rw[uu];clear og uu gk B C J K D;go_wp2_with fail;refine D3.out.mono ?_;intro e X o;obtain⟨v,rfl⟩:=o.ret;have HZ:Hid (ZpP w S A (O.map Prod.fst) (.returned (.bool v)) X):=by
     show ZpP _ _ _ _ _ _
     rw[m.out];exact ZpP.trans um.out G9.out o
    clear o;go_wp2;go_ret;exact HZ.out
theorem lJ:∀(h:Nat) (f:fZ) (b:Nat) (P:List Nat) (lo hi:OB),Wk f t H->aN f t H P b h lo hi->loR lo key->hiR hi key->sz f.n b<5->VE f->f.r.length<=16->∀(w:World) (S:Nat) (A:SA),Sp w S A f->
  Calls Tryz.prog 72 #[.pointer (some ⟨S,0,none⟩),.int .i64 b,.string key,.string val] w (ZpP w S A ((putAt h f b key val).map Prod.fst))
 | 0,f,b,P,lo,hi,a,p,n,m,k,l,o,w,S,A,i=>by
  obtain⟨es,d,x,v⟩:=p.leaf a;have s:=a.ai d;refine(xG w S A i b es key val d x.a6 v (by simp only at s;omega) (a.ic.lt d)).mono ?_;rintro e w' ⟨rfl,z⟩;have y:(putAt 0 f b key val).map Prod.fst=some (setN f b (1,putE es key val)):=by unfold putAt;rw[aE d];rfl
  rw[y];exact⟨fun q=>(by cases q),fun g q=>(by cases q;exact⟨rfl,z⟩)⟩
 | h+1,f,b,P,lo,hi,a,p,n,m,k,l,o,w,S,A,i=>
  uS a p n m k l o (fun g c r j u B C D E F G I=>lJ h g c r j u B C D E F G I) w S A i
theorem aOB(l:List (Int×Int))(t:Nat)(q:Int)(h:t<l.length):(yT.row l).setIfInBounds (t*2+1) (.int .i64 q)=yT.row (l.set t ((l.getD t (0,0)).1,q)):=by
 unfold Ely.row;rw[List.setIfInBounds_toArray];congr 1;induction l generalizing t with
 | nil=>simp at h
 | cons a l ih=>
  cases t with
  | zero=>rfl
  | succ t=>
   simp only[List.flatMap_cons,List.set_cons_succ];have e:yT.cell a=[.int .i64 a.1,.int .i64 a.2]:=rfl;rw[e];have b:(t+1)*2+1=t*2+1+1+1:=by omega
   rw[b];show [_,_]++(l.flatMap yT.cell).set (t*2+1) _=_
   rw[ih t (by simpa using h)];rfl
theorem Sp.bl(h:Sp w S A f)(ht:t<f.r.length)(q:Nat):Sp (w.setCell ⟨A.gr,t*2+1,none⟩ (.int .i64 q)) S A (setL f (.root t) q)/\Frm (fun k=>k=A.gr) w (w.setCell ⟨A.gr,t*2+1,none⟩ (.int .i64 q)):=by
 have hF:Frm (fun k=>k=A.gr) w (w.setCell ⟨A.gr,t*2+1,none⟩ (.int .i64 q)):=Frm.set (S:=fun k=>k=A.gr) w (p:=⟨A.gr,t*2+1,none⟩) rfl _;have a:=h.v.bo;have b:(setL f (.root t) q).r.length=f.r.length:=by simp[setL]
 refine⟨⟨?_,h.v.aq.ae hF (fun g cs k=>k.ab a (by decide)) (h.v.aq.arr.ab a (by decide)),h.v.ln,?_,by rw[b];exact h.v.rs,h.v.m.ae hF fun g cs k=>k.ab a (by decide)⟩,hF⟩
 ·have:=h.box.ae hF (h.box.ab a (by decide))
  have e:aL A (setL f (.root t) q)=aL A f:=by unfold aL;rw[b];rfl
  rw[e];exact this
 ·have:=a.set (t*2+1) (.int .i64 q)
  rw[aOB _ _ _ (by simp;omega),List.set_append_left _ _ ht]at this;have e:(f.r++A.rj).getD t (0,0)=f.r.getD t (0,0):=by rw[dB,if_pos ht]
  rw[e]at this;exact this
structure ZrP(w:World)(S:Nat)(A:SA)(f:fZ)(t:Nat)(r:Ending)(w':World):Prop where
 ae:Frm (fun k=>k=A.ga) w w'
 no:shadow f (.root t)=none->r=.returned (.int .i64 (-1))
 yes:∀g c,shadow f (.root t)=some (g,c)->r=.returned (.int .i64 c)/\∃A' f',Sp w' S A' f'/\SaS A A'/\f'.r=f.r/\g.r=(setL f' (.root t) c).r/\(∀x d,g.n x=some d->f'.n x=some d)/\g.c.length=f'.c.length/\g.next=f'.next/\g.gen=f'.gen/\g.m=f'.m
theorem mL(k:IC f)(s:∀b d,f.n b=some d->d.2.length<=10)(w:World)(S:Nat)(A:SA)(h:Sp w S A f)(x:f.r.length<=16)(t:Nat)(ht:t<f.r.length):
  Calls Tryz.prog 69 #[.pointer (some ⟨S,0,none⟩),.int .i64 (aB f t)] w (ZrP w S A f t):=by
 obtain⟨d,n⟩:=k.ao (aP ht);refine(oI k s w S A h x (aB f t) d n).mono ?_;intro r w' m;rcases qV k ht n with⟨e,a,v⟩ | ⟨e,l,a⟩ | ⟨e,l,g,a,o,i,p⟩
 ·obtain⟨rfl,j⟩:=m.own e
  refine⟨Frm.aa j,fun q=>(by rw[a]at q;cases q),fun g c q=>?_⟩;rw[a]at q;cases q;exact⟨rfl,A,f,h.below j,SaS.refl _,rfl,v.symm,fun _ _ q=>q,rfl,rfl,rfl,rfl⟩
 ·obtain⟨rfl,j⟩:=m.no e l
  exact⟨Frm.aa j,fun _=>rfl,fun g c q=>(by rw[a]at q;cases q)⟩
 ·obtain⟨rfl,u,hF⟩:=m.yes e l
  refine⟨hF,fun q=>(by rw[a]at q;cases q),fun g' c q=>?_⟩;rw[a]at q;cases q;exact⟨rfl,_,_,u,SaS.setN _ _ _,rfl,o,p,i.c,i.next,i.gen,i.m⟩
structure ZqP(w:World)(S:Nat)(A:SA)(r:Option fZ)(e:Ending)(w':World):Prop where
 ae:Frm (fun k=>k=A.ga\/k=A.gr) w w'
 no:r=none->e=.returned (.bool false)
 yes:∀g,r=some g->e=.returned (.bool true)/\∃A',Sp w' S A' g/\SaS A A'
theorem ZpP.ae(h:ZpP w S A r e w2):Frm (fun k=>k=A.ga) w w2:=by
 cases r with
 | none=>exact(h.no rfl).2
 | some g=>exact(h.yes g rfl).2.ae
theorem ZpP.toQ(hF:Frm (fun k=>k=A.ga\/k=A.gr) w w1)(a:SaS A A1)(h:ZpP w1 S A1 r e w2):ZqP w S A r e w2:=by
 refine⟨hF.trans (h.ae.wide fun k _ e=>.inl (e.trans a.ga)),fun q=>(h.no q).1,fun g q=>?_⟩;obtain⟨c,⟨b,d,f⟩,_⟩:=h.yes g q;exact⟨c,b,d,a.trans f⟩
theorem aMZ(w:World)(a b:E3){g:Nat}(c:g=w.heap.size):yE.Sl (w.alloc (.cells #[.string a.1,.string a.2.1,.int .i64 a.2.2,.string b.1,.string b.2.1,.int .i64 b.2.2] 130)) (.slice (some ⟨g,0,none⟩) 2 2) [a,b]:=by
 subst c;exact .inr ⟨w.heap.size,0,2,[a,b],by simp,IsC.new _ _ _,by simp,by simp⟩
theorem aFU(wk:Wk f t H)(hV:VE f)(jy:f.r.length<=16)(w:World)(S:Nat)(A:SA)(hS:Sp w S A f):
  Calls Tryz.prog 50 #[.pointer (some ⟨S,0,none⟩),.int .i64 t,.string key,.string val] w (ZqP w S A ((put f t H key val).map Prod.fst)):=by
 have sv:=gY;have GX:=jC;have ht:=wk.tl;have hE:=fun b' d' (ft:f.n b'=some d')=>(by have:=wk.ai ft;omega:d'.2.length<=10);obtain⟨_,s1,s2,_⟩:=hS.cells;obtain⟨r0,r1⟩:=hS.v.root ht;have h0:0<=(f.r.getD t (0,0)).2:=(wk.ic.rb _ (aP ht)).1;have fx:(f.r.getD t (0,0)).2=(aB f t:Int):=by unfold aB;omega
 rw[fx]at r1;have S9:(t:Int) <(f.r.length:Int):=by omega
 have zx:=aA (mL wk.ic hE w S A hS jy t ht);have h:Hid (put f t H key val=match shadow f (.root t)with
  | none=>none
  | some (g,r)=>if(Fo.look g r).2.length=5 then match bL g t r with
   | none=>none
   | some (k,top)=>putAt (H+1) k top key val
   else putAt H g r key val):=rfl
 generalize put f t H key val=K at *;clear hE fx h0 r0;go_enter Tryz.func50,Tryz.ntmps50;go_wp2_with fail;refine zx.out.mono ?_;intro r w1 s;obtain⟨ij,we,wg⟩:=s;cases C:shadow f (.root t)with
 | none=>
  obtain rfl:=we C;have I:Hid (K=none):=by show K=none;rw[h.out];rw[C]
  clear we wg C;go_wp2;go_ret;rw[I.out];exact⟨ij.wide fun _ _ e=>.inl e,fun _=>rfl,fun g q=>by cases q⟩
 | some gc=>
  obtain⟨g,r⟩:=gc;obtain⟨rfl,A1,f1,X,C6,AN,pn,pj,DY,Du,Nx,CM⟩:=wg g r C;obtain⟨i,p1,a1,a2,a3,a4,a5,a6⟩:=wk.ak C;have Lj:=hV.ak C;rw[C]at h;simp only at h;have Az:t<f1.r.length:=by rw[AN];exact ht
  obtain⟨be,d8⟩:=X.bl Az r;have Y:Sp (w1.setCell ⟨A1.gr,t*2+1,none⟩ (.int .i64 r)) S A1 g:=be.sub pj DY pn Du Nx CM;obtain⟨_,t1,t2,_⟩:=X.cells;obtain⟨_,z1⟩:=X.v.root Az;have z2:=X.v.bo.frozen (t*2+1);have br:Frm (fun k=>k=A.ga\/k=A.gr) w (w1.setCell ⟨A1.gr,t*2+1,none⟩ (.int .i64 r)):=(ij.wide fun _ _ e=>.inl e).trans (d8.wide fun _ _ e=>.inr (e.trans C6.gr));obtain⟨w2,dh⟩:=eZ (w1.setCell ⟨A1.gr,t*2+1,none⟩ (.int .i64 r));rw[dh]at Y br;obtain⟨⟨k,es⟩,u⟩:=i.ic.live (x:=r) (by rw[a3];omega);have av:=i.ai u;simp only at av;obtain⟨_,u1,u2,_⟩:=Y.cells;obtain⟨ac,cpc,gk,Fg,_,d0,d1,Ep⟩:=Y.v.aq.at u;simp only at gk d0 d1 Ep;have Zx:(r:Int) <(A1.ns.length:Int):=by omega
  have S8:(t:Int) <(f1.r.length:Int):=by omega
  have Gr:¬((r:Int)<0):=by omega
  have Bb:Hid (g.r.length<=16):=by show g.r.length<=16;rw[a6.len];exact jy
  have HX:=aA Y;have HF:=aA br;have HA:=aA C6;rw[aE u]at h;simp only at h;clear we wg C ij d8 br X be Y AN pn pj DY Du Nx CM C6 zx a6;go_upto_if 43 with fail
  clear dh;by_cases R:es.length=5
  ·have uu:((es.length:Int) == 5)=true:=by rw[R];rfl
   rw[uu];rw[if_pos R]at h;have H5:=aA R;clear R uu;have JG:=fun b' d' (ft:g.n b'=some d')=>(by have:=i.ai ft;omega:d'.2.length<=10);have UL:=i.ic.counts Bb.out JG;have HT:=aA (nD g);have ML:=aA fun(w':World) (hb:Bl w2 w') (x:Int)=>mZ i.ic UL JG w' S A1 (HX.out.below hb) (by have:=Bb.out;omega) x;clear JG gk UL;have MM:=aA (ML.out w2 (bQ _ _) (-1));go_wp2_with fail;refine MM.out.mono ?_;rintro r2 w3 ⟨rfl,V⟩;rw[HT.out];unfold bL at h;rw[aE u]at h;simp only at h;by_cases T:aF g=0
   ·rw[if_pos T]
    rw[if_pos T]at h;have I:Hid (K=none):=h.out;clear T h;go_wp2;go_ret;rw[I.out];exact⟨HF.out.trans (Frm.aa V),fun _=>rfl,fun g q=>by cases q⟩
   ·rw[if_neg T]
    rw[if_neg T]at h;obtain⟨l1,l2,l3,l4⟩:=aO T;have Bc:=aA (aCW (f:=g) (g:=setN g r (k,es.take 3)) (d:=(k,es.drop 3)) rfl rfl l2);have Iy:=aA (ML.out w3 V (aF g));generalize hTp:aF (takeAt (setN g r (k,es.take 3)) (aF g) (k,es.drop 3))=a at *;have Je:=aA hTp;clear hTp;obtain⟨q,hq⟩:=eZ (aF g);rw[hq]at Bc Iy;have am:¬((q:Int)<0):=by omega
    have HQ:=aA hq;rw[hq];clear hq;go_wp2_with fail;refine Iy.out.mono ?_;rintro r3 w4 ⟨rfl,fw⟩;rw[Bc.out];by_cases L:a=0
    ·rw[if_pos L]
     rw[if_pos L]at h;have I:Hid (K=none):=h.out;clear L h;go_wp2;go_ret;rw[I.out];exact⟨(HF.out.trans (Frm.aa V)).trans (Frm.aa fw),fun _=>rfl,fun g q=>by cases q⟩
    ·rw[if_neg L]
     rw[if_neg L,HQ.out]at h;have I:Hid (K=putAt (H+1) (growF g t r k es 3 q a (ky es 0) (ky es 3)) a key val):=h.out;rw[HQ.out]at l1 l2 l3 l4;obtain⟨m1,m2,P,m4⟩:=aO (f:=takeAt (setN g r (k,es.take 3)) (aF g) (k,es.drop 3)) (by rw[Je.out];exact L);rw[Je.out]at m1 m2 P;rw[HQ.out]at m2 P;have pf:∀x,cu (takeAt (setN g r (k,es.take 3)) q (k,es.drop 3)) x=if q=x then 1 else cu g x:=fun x=>dV (f:=setN g r (k,es.take 3)) (k,es.drop 3) l2 x;rw[pf]at P;have ui:a≠q:=fun e=>by rw[if_pos e.symm]at P;omega
     rw[if_neg (Ne.symm ui)]at P;have M:a<g.c.length:=by simpa [takeAt,setN] using m2
     subst a1;obtain⟨wk2,p2,_,_,b3⟩:=i.grow a3 u (m:=3) (by omega) (by have:=H5.out;omega) l1 l2 l3 m1 M P ui;have M7:=Lj.growF t (aB g t) k (Lj _ _ u) 3 q a (ky es 0) (ky es 3);have LF:aB g t≠q:=fun e=>by rw[e]at a3;omega
     have ed:aB g t≠a:=fun e=>by rw[e]at a3;omega
     have ay:sz (growF g t (aB g t) k es 3 q a (ky es 0) (ky es 3)).n a<5:=by unfold sz;rw[b3];simp
     have My:(growF g t (aB g t) k es 3 q a (ky es 0) (ky es 3)).r.length<=16:=by
      have:(growF g t (aB g t) k es 3 q a (ky es 0) (ky es 3)).r.length=g.r.length:=(aX.growF ..).len
      rw[this];exact Bb.out
     have Cn:=(HX.out.below V).below fw;have P6:=aA (sV w4 S A1 Cn (aB g t) q k es u H5.out (i.ic.lt u) l2 LF);have fi:t<g.r.length:=i.tl;have wh:Hid (∀(A':SA) (w':World) (x:NV),Sp w' S A' (setN (setN g q (k,es.drop 3)) (aB g t) (k,es.take 3))->NdR w' x (2,[(ky es 0,.empty,(aB g t:Int)),(ky es 3,.empty,(q:Int))])->Sp ((set2 w' A'.ga a x).setCell ⟨A'.gr,t*2+1,none⟩ (.int .i64 a)) S (A'.setN a x) (growF g t (aB g t) k es 3 q a (ky es 0) (ky es 3))/\Frm (fun k=>k=A'.ga\/k=A'.gr) w' ((set2 w' A'.ga a x).setCell ⟨A'.gr,t*2+1,none⟩ (.int .i64 a))):=fun A' w' x mq hx=>by
      have h1:=mq.set2 (q:=a) M hx;obtain⟨h2,h3⟩:=h1.bl (t:=t) fi a;refine⟨h2.sub (fun z d' s=>?_) (by simp[growF,setL,takeAt,setN]) rfl rfl rfl rfl,((eK w' A'.ga a x).wide fun _ _ e=>.inl e).trans (h3.wide fun _ _ e=>.inr e)⟩;have y:upd (upd (upd g.n (aB g t) (some (k,es.take 3))) q (some (k,es.drop 3))) a (some (2,[(ky es 0,.empty,(aB g t:Int)),(ky es 3,.empty,(q:Int))])) z=some d':=s;show upd (upd (upd g.n q (some (k,es.drop 3))) (aB g t) (some (k,es.take 3))) a _ z=some d'
      by_cases e1:z=a
      ·rw[e1,aD]at y |-;exact y
      ·rw[aC _ _ e1]at y |-
       by_cases e2:z=aB g t
       ·rw[e2,aC _ _ LF,aD]at y
        rw[e2,aD];exact y
       ·rw[aC _ _ e2]
        by_cases e3:z=q
        ·rw[e3,aD]at y |-;exact y
        ·rw[aC _ _ e3,aC _ _ e2]at y
         rw[aC _ _ e3];exact y
     have oo:(setN (setN g q (k,es.drop 3)) (aB g t) (k,es.take 3)).n q=some (k,es.drop 3):=by
      show upd (upd g.n q _) (aB g t) _ q=_
      rw[aC _ _ (Ne.symm LF),aD]
     have xq:(setN (setN g q (k,es.drop 3)) (aB g t) (k,es.take 3)).n (aB g t)=some (k,es.take 3):=aD _ _ _;have Lr:(setN (setN g q (k,es.drop 3)) (aB g t) (k,es.take 3)).c.length=g.c.length:=rfl;have N8:(setN (setN g q (k,es.drop 3)) (aB g t) (k,es.take 3)).r=g.r:=rfl;have Et:((es.drop 3).getD 0 e0).1=ky es 3:=by rw[fA];rfl
     have OO:((es.take 3).getD 0 e0).1=ky es 0:=by rw[fV _ _ _ (by omega)];rfl
     have ik:0 <(es.drop 3).length:=by rw[List.length_drop,H5.out];omega
     have LP:0 <(es.take 3).length:=by rw[List.length_take,H5.out];omega
     have D3:=aA fun(w':World) (A':SA) (mq:Sp w' S A' (growF g t (aB g t) k es 3 q a (ky es 0) (ky es 3)))=>lJ (key:=key) (val:=val) (H+1) _ a [] none none wk2 p2 trivial trivial ay M7 My w' S A' mq;generalize setN (setN g q (k,es.drop 3)) (aB g t) (k,es.take 3)=O at *;generalize growF g t (aB g t) k es 3 q a (ky es 0) (ky es 3)=gs at *;generalize es.drop 3=dr at *;generalize es.take 3=tk at *;generalize ky es 0=n at *;generalize ky es 3=l at *;generalize aB g t=r at *;clear h L Je b3 wk2 p2 ay M7 My Bc HT ML MM Iy;go_wp2_with fail;refine P6.out.mono ?_;rintro rr F ⟨rfl,⟨⟨b,o,EC⟩,xg⟩⟩;obtain⟨_,t7,t8,_⟩:=o.cells;obtain⟨aq,cpq,CU,Sq,_,_,Z,_⟩:=o.v.aq.at oo;obtain⟨ar,cpr,LM,Zw,_,_,e2',_⟩:=o.v.aq.at xq;simp only at CU Z LM e2';obtain⟨gq,oq,cq',Ri,CI,Er⟩:=eG CU ik;cases Ri;obtain⟨gr',or',cr',Xr,Ey,NO⟩:=eG LM LP;cases Xr;obtain⟨y0,_,_⟩:=Er F 0 rfl ik;obtain⟨x0,_,_⟩:=NO F 0 rfl LP;rw[Et]at y0;rw[OO]at x0;simp only[Nat.zero_mul,Nat.add_zero]at x0 y0;have Rf:(0:Int) <(dr.length:Int):=by omega
     have Yt:(0:Int) <(tk.length:Int):=by omega
     have VP:(q:Int) <(b.ns.length:Int):=by omega
     have Yh:(r:Int) <(b.ns.length:Int):=by omega
     have Gy:a<O.c.length:=by rw[Lr];exact M
     have Yu:(t:Int) <(O.r.length:Int):=by rw[N8];omega
     have EW:S≠b.ga:=o.box.ab o.v.aq.arr (by decide);obtain⟨B,hB⟩:=eZ (F.heap.size);obtain⟨w8,G2⟩:=eZ (F.alloc (.cells #[.string n,.string {data:=#[]},.int .i64 r] 130));have Q:=bAl G2;have Ft:w8.heap.size=B+1:=by rw[<-G2,<-hB];simp
     obtain⟨B2,QV⟩:=eZ (w8.heap.size);obtain⟨j,Ia⟩:=eZ (w8.alloc (.cells #[.string l,.string {data:=#[]},.int .i64 q] 130));have fl:=bAl Ia;have PY:j.heap.size=B+2:=by rw[<-Ia];simp;omega
     obtain⟨B3,QX⟩:=eZ (j.heap.size);have fe:=iNw G2 hB;have GD:=fe.of (fl.block _ fe.lt);have di:=iNw Ia QV;have Ju:=Q.trans (fl.mono Q.size);have Ul:=o.below Q;have RA:=o.below Ju;obtain⟨_,t78,_⟩:=Ul.cells;obtain⟨_,t79,t89,_⟩:=RA.cells;have e18:w8.cell? ⟨b.ga,q*2+1,none⟩=some (.slice (some ⟨gq,oq,none⟩) dr.length cpq):=(Q.cell (p:=⟨b.ga,_,none⟩) o.v.aq.arr.lt).trans Z;have y08:w8.cell? ⟨gq,oq,none⟩=some (.string l):=(Q.cell (p:=⟨gq,_,none⟩) CI).trans y0;have c0:j.cell? ⟨B,0,none⟩=some (.string n):=GD.c rfl;have c1:j.cell? ⟨B,1,none⟩=some (.string {data:=#[]}):=GD.c rfl;have c2:j.cell? ⟨B,2,none⟩=some (.int .i64 r):=GD.c rfl;have c3:j.cell? ⟨B2,0,none⟩=some (.string l):=di.c rfl;have c4:j.cell? ⟨B2,1,none⟩=some (.string {data:=#[]}):=di.c rfl;have c5:j.cell? ⟨B2,2,none⟩=some (.int .i64 q):=di.c rfl;have Pz:=aA fun(w':World) (x:NV) (hb:Bl F w') (hx:NdR w' x (2,[(n,.empty,(r:Int)),(l,.empty,(q:Int))]))=>wh.out b w' x (o.below hb) hx;have Ha:Hid (Frm (fun k=>k=A.ga\/k=A.gr) w F):=(((HF.out.trans (Frm.aa V)).trans (Frm.aa fw)).trans (xg.wide fun k _ e=>.inl (e.trans HA.out.ga)));have Dh:Hid (SaS A b):=HA.out.trans EC;have L3:=aA Ju;have O0:=aA RA;have ni:=aA (aI Ft PY);have JA:B≠b.ga:=by have:=o.v.aq.arr.lt;omega
     have EG:B2≠b.ga:=by have:=o.v.aq.arr.lt;omega
     have Ts:=aA fun(w':World) (hb:Bl F w')=>(o.below hb).cells.2.2.1;clear CU LM Er NO xg EC Cn ik LP Lr Et OO N8 Ul RA fe GD di Q fl Ju wh Ft PY;have G:=O0.out.below ((bQ j.heap.size j).alloc (nR _) (.cells #[.string n,.string {data:=#[]},.int .i64 r,.string l,.string {data:=#[]},.int .i64 q] 130));obtain⟨k0,k1,gz,gh,jq,im,Yv⟩:=G.wr Gy;have Bx:=aMZ j (n,.empty,(r:Int)) (l,.empty,(q:Int)) rfl;have Co:Bl F (j.alloc (.cells #[.string n,.string {data:=#[]},.int .i64 r,.string l,.string {data:=#[]},.int .i64 q] 130)):=L3.out.alloc L3.out.size _;rw[QX]at Bx;obtain⟨c,LR⟩:=eZ (j.alloc (.cells #[.string n,.string {data:=#[]},.int .i64 r,.string l,.string {data:=#[]},.int .i64 q] 130));have EX:yE.Sl c (.slice (some ⟨B3,0,none⟩) 2 2) [(n,.empty,(r:Int)),(l,.empty,(q:Int))]:=by rw[<-LR];exact Bx
     rw[LR]at gz gh jq im Co G;have U:NdR c ((2:Int),some (⟨B3,0,none⟩:Addr),2,2) (2,[(n,.empty,(r:Int)),(l,.empty,(q:Int))]):=⟨rfl,EX,nR _⟩;obtain⟨M9,Mb⟩:=Pz.out c _ Co U;have QO:=aA M9;have Pw:Hid (Frm (fun k=>k=A.ga\/k=A.gr) w ((set2 c b.ga a (2,some ⟨B3,0,none⟩,2,2)).setCell ⟨b.gr,t*2+1,none⟩ (.int .i64 a))):=(Ha.out.trans (Frm.aa Co)).trans (Mb.wide fun k _ e=>e.elim (fun e=>.inl (e.trans Dh.out.ga)) fun e=>.inr (e.trans Dh.out.gr));have v2:(set2 c b.ga a (2,some ⟨B3,0,none⟩,2,2)).drew.cell? ⟨S,2,none⟩=some (.slice (some ⟨b.gr,0,none⟩) O.r.length (O.r.length+b.rj.length)):=(G.set2 Gy U).drew.cells.2.2.1;have v3:(set2 c b.ga a (2,some ⟨B3,0,none⟩,2,2)).drew.cell? ⟨b.gr,t*2+1,none⟩=some (.int .i64 (O.r.getD t (0,0)).2):=((G.set2 Gy U).drew.v.root (t:=t) (show t<O.r.length by omega)).2;have v4:(set2 c b.ga a (2,some ⟨B3,0,none⟩,2,2)).drew.frozen? ⟨b.gr,t*2+1,none⟩=false:=(G.set2 Gy U).drew.v.bo.frozen (t*2+1);have S0:(c.setCell ⟨b.ga,a*2,none⟩ (.int .i64 2)).setCell ⟨b.ga,a*2+1,none⟩ (.slice (some ⟨B3,0,none⟩) 2 2)=set2 c b.ga a (2,some ⟨B3,0,none⟩,2,2):=rfl;have N:=bAl LR;have Jk:c.drew.cell? ⟨S,1,none⟩=some (.slice (some ⟨b.ga,0,none⟩) b.ns.length (b.ns.length+b.nj.length)):=G.drew.cells.2.1;have J:B<j.heap.size/\B2<j.heap.size:=by have:=ni.out;omega
     have Jl:c.drew.cell? ⟨B,0,none⟩=some (.string n):=(N.cell (p:=⟨B,_,none⟩) J.1).trans c0;have Jm:c.drew.cell? ⟨B,1,none⟩=some (.string {data:=#[]}):=(N.cell (p:=⟨B,_,none⟩) J.1).trans c1;have Jn:c.drew.cell? ⟨B,2,none⟩=some (.int .i64 r):=(N.cell (p:=⟨B,_,none⟩) J.1).trans c2;have Jo:c.drew.cell? ⟨B2,0,none⟩=some (.string l):=(N.cell (p:=⟨B2,_,none⟩) J.2).trans c3;have Jp:c.drew.cell? ⟨B2,1,none⟩=some (.string {data:=#[]}):=(N.cell (p:=⟨B2,_,none⟩) J.2).trans c4;have Jq:c.drew.cell? ⟨B2,2,none⟩=some (.int .i64 q):=(N.cell (p:=⟨B2,_,none⟩) J.2).trans c5;have O1:=aA (aI Jk (aI Jl (aI Jm (aI Jn (aI Jo (aI Jp Jq))))));have WW:Hid (∀D E,((c.drew.setCell ⟨b.ga,a*2,none⟩ D).setCell ⟨b.ga,a*2+1,none⟩ E).drew.cell? ⟨S,1,none⟩=some (.slice (some ⟨b.ga,0,none⟩) b.ns.length (b.ns.length+b.nj.length))/\((c.drew.setCell ⟨b.ga,a*2,none⟩ D).setCell ⟨b.ga,a*2+1,none⟩ E).drew.cell? ⟨B,0,none⟩=some (.string n)/\((c.drew.setCell ⟨b.ga,a*2,none⟩ D).setCell ⟨b.ga,a*2+1,none⟩ E).drew.cell? ⟨B,1,none⟩=some (.string {data:=#[]})/\((c.drew.setCell ⟨b.ga,a*2,none⟩ D).setCell ⟨b.ga,a*2+1,none⟩ E).drew.cell? ⟨B,2,none⟩=some (.int .i64 r)/\((c.drew.setCell ⟨b.ga,a*2,none⟩ D).setCell ⟨b.ga,a*2+1,none⟩ E).drew.cell? ⟨B2,0,none⟩=some (.string l)/\((c.drew.setCell ⟨b.ga,a*2,none⟩ D).setCell ⟨b.ga,a*2+1,none⟩ E).drew.cell? ⟨B2,1,none⟩=some (.string {data:=#[]})/\((c.drew.setCell ⟨b.ga,a*2,none⟩ D).setCell ⟨b.ga,a*2+1,none⟩ E).drew.cell? ⟨B2,2,none⟩=some (.int .i64 q)):=fun D E=>⟨bY EW Jk,bY JA Jl,bY JA Jm,bY JA Jn,bY EG Jo,bY EG Jp,bY EG Jq⟩;clear G M9 Mb U EX Bx Co Jk Jl Jm Jn Jo Jp Jq J N;go_wp2_with fail;go_region_held3 (fun W=>W.cell? ⟨S,1,none⟩=some (.slice (some ⟨b.ga,0,none⟩) b.ns.length (b.ns.length+b.nj.length))/\W.cell? ⟨B,0,none⟩=some (.string n)/\W.cell? ⟨B,1,none⟩=some (.string {data:=#[]})/\W.cell? ⟨B,2,none⟩=some (.int .i64 r)/\W.cell? ⟨B2,0,none⟩=some (.string l)/\W.cell? ⟨B2,1,none⟩=some (.string {data:=#[]})/\W.cell? ⟨B2,2,none⟩=some (.int .i64 q)) (first | exact O1.out | exact WW.out _ _ | assumption | go_keep) ((fail));have Ub:Sp ((set2 c b.ga a (2,some ⟨B3,0,none⟩,2,2)).drew.setCell ⟨b.gr,t*2+1,none⟩ (.int .i64 a)) S (b.setN a (2,some ⟨B3,0,none⟩,2,2)) gs:=QO.out.drew;have Me:Frm (fun k=>k=A.ga\/k=A.gr) w ((set2 c b.ga a (2,some ⟨B3,0,none⟩,2,2)).drew.setCell ⟨b.gr,t*2+1,none⟩ (.int .i64 a)):=Pw.out.trans (Frm.drew _ _);have MC:=aA (D3.out _ _ Ub);have Hb:=aA Me;clear Ub Me S0;generalize (set2 c b.ga a (2,some ⟨B3,0,none⟩,2,2)).drew=w12 at *;obtain⟨w13,TB⟩:=eZ (w12.setCell ⟨b.gr,t*2+1,none⟩ (.int .i64 a));rw[TB]at MC Hb;go_wp2_with fail;refine MC.out.mono ?_;intro e w6 s;obtain⟨v,rfl⟩:=s.ret;have HZ:Hid (ZqP w S A (K.map Prod.fst) (.returned (.bool v)) w6):=by
      show ZqP _ _ _ _ _ _
      rw[I.out];exact s.toQ Hb.out (Dh.out.trans (SaS.setN _ _ _))
     clear s;go_wp2;go_ret;exact HZ.out
  ·have uu:((es.length:Int) == 5)=false:=by rw[beq_eq_false_iff_ne];omega
   rw[uu];rw[if_neg R]at h;have D3:=aA (lJ (key:=key) (val:=val) H g r [] none none i p1 trivial trivial (by unfold sz;rw[u];simp only;omega) Lj Bb.out w2 S A1 HX.out);clear R uu gk;go_wp2_with fail;refine D3.out.mono ?_;intro e w6 s;obtain⟨v,rfl⟩:=s.ret;have HZ:Hid (ZqP w S A (K.map Prod.fst) (.returned (.bool v)) w6):=by
    show ZqP _ _ _ _ _ _
    rw[h.out];exact s.toQ HF.out HA.out
   clear s;go_wp2;go_ret;exact HZ.out
structure MkP(w:World)(S:Nat)(A:SA)(b:Nat)(k:Int)(l:List E3)(r:Ending)(w':World):Prop where
 ex:∃x:NV,r=.returned (.slice x.2.1 x.2.2.1 x.2.2.2)/\x.1=k/\NdR w' x (k,l)
 bb:Bl w w'
 s1:w'.cell? ⟨S,1,none⟩=some (.slice (some ⟨A.ga,0,none⟩) A.ns.length (A.ns.length+A.nj.length))
 wr:∃k0 k1,w'.cell? ⟨A.ga,b*2,none⟩=some k0/\w'.cell? ⟨A.ga,b*2+1,none⟩=some k1/\w'.frozen? ⟨A.ga,b*2,none⟩=false/\w'.frozen? ⟨A.ga,b*2+1,none⟩=false
theorem Sp.made(h:Sp w S A f)(g:b<f.c.length){u:Value}(i:yE.Own w.heap.size w' u l)(e:Below w.heap.size w.drew w'):MkP w S A b k l (.returned u) w':=by
 obtain⟨x,rfl,c,d⟩:=i.nv k;have a:Bl w w':=(bQ _ w).drew.trans e;obtain⟨j,m,n,o,p,q,_⟩:=(h.below a).wr g;exact⟨⟨x,rfl,c,d⟩,a,(h.below a).cells.2.1,j,m,n,o,p,q⟩
theorem Sp.cy(h:Sp w S A f){v':Value}{fs:List E3}(i:yE.Sl w v es)(j:yE.Sl w v' fs)(e:es.length<=100)(a:fs.length<=100)(k:Int)(d:b<f.c.length):Calls Tryz.prog 90 #[v,v'] w.drew (MkP w S A b k (es++fs)):=by
 refine(mY v v' es fs w.drew (i.below (bQ _ w).drew) (j.below (bQ _ w).drew) e a).mono ?_;rintro r w1 ⟨u,rfl,g,c⟩;exact h.made d g c
theorem Sp.bm(h:Sp w S A f)(j:yE.Sl w v es)(d:i<es.length)(e:es.length<=100)(k:Int)(c:b<f.c.length):Calls Tryz.prog 78 #[v,.int .i64 i] w.drew (MkP w S A b k (delE es i)):=by
 refine(uT v es i w.drew (j.below (bQ _ w).drew) d e).mono ?_;rintro r w1 ⟨u,rfl,g,a⟩;exact h.made c g a
theorem Sp.dh(h:Sp w S A f)(e:E3)(l:yE.Sl w v es)(d:i<es.length)(g:es.length<=100)(k:Int)(c:b<f.c.length):Calls Tryz.prog 76 #[v,.int .i64 i,.agg #[.string e.1,.string e.2.1,.int .i64 e.2.2]] w.drew (MkP w S A b k (es.set i e)):=by
 refine(eU v es i e w.drew (l.below (bQ _ w).drew) d g).mono ?_;rintro r w1 ⟨u,rfl,j,a⟩;exact h.made c j a
theorem Sp.et(h:Sp w S A f)(e:E3)(l:yE.Sl w v es)(d:i<=es.length)(g:es.length<=100)(k:Int)(c:b<f.c.length):Calls Tryz.prog 91 #[v,.int .i64 i,.agg #[.string e.1,.string e.2.1,.int .i64 e.2.2]] w.drew (MkP w S A b k (insE es i e)):=by
 refine(oH v es i e w.drew (l.below (bQ _ w).drew) d g).mono ?_;rintro r w1 ⟨u,rfl,j,a⟩;exact h.made c j a
theorem Sp.dg(h:Sp w S A f)(b:yE.Sl w v l)(hF:Frm (fun k=>k=A.ga) w w'):yE.Sl w' v l:=b.ae hF fun g cs a=>a.ab h.v.aq.arr (by decide)
theorem tB{c:Nat}{pes:List E3}(x:Nat)(d:Nd)(h:(mergeF g b c s k ces pes).n x=some d):(setN (setN g c (k,ces)) b (2,pes)).n x=some d:=by
 unfold mergeF at h;rw[cX]at h;split at h
 ·by_cases e:x=s
  ·rw[e,aD]at h;cases h
  ·rw[aC _ _ e]at h;exact h
 ·exact h
theorem qD(g:fZ)(b c s:Nat)(k:Int)(a d:List E3):(mergeF g b c s k a d).r=g.r:=by
 unfold mergeF letGo;split<;>rfl
theorem aMT{W:World}{g q:Nat}{x v0 v1:Value}(a:s≠q)(h:W.cell? ⟨g,s*2+1,none⟩=some x):((W.setCell ⟨g,q*2,none⟩ v0).setCell ⟨g,q*2+1,none⟩ v1).drew.cell? ⟨g,s*2+1,none⟩=some x:=by
 rw[jO _ _ _ _ _ (.inr ⟨by omega,by omega⟩)];exact h
structure Wd(g:fZ)(b:Nat)(es:List E3)(i j:Nat)(k:Int)(ces ses:List E3):Prop where
 ic:IC g
 ve:VE g
 bq:g.r.length<=16
 ai:∀b d,g.n b=some d->d.2.length<=5
 hb:g.n b=some (2,es)
 hi:i<es.length
 hj:j<es.length
 hc:g.n (kd es i)=some (k,ces)
 hs:g.n (kd es j)=some (k,ses)
 bc:b≠kd es i
 bs:b≠kd es j
 cs:kd es i≠kd es j
 c2:ces.length=2
 s2:2<=ses.length
theorem oK{ses:List E3}(h:Wd g b es i (i+1) k ces ses)(h2:ses.length=2)(w:World)(S:Nat)(A:SA)(c:Sp w S A g):
  Calls Tryz.prog 77 #[.pointer (some ⟨S,0,none⟩),.int .i64 b,.int .i64 i] w fun e w'=>e=.returned (.bool true)/\Zt w S A (mergeF g b (kd es i) (kd es (i+1)) k (ces++ses) (delE es (i+1))) w':=by
 have sv:=gY;have y7:=h.ai b _ h.hb;simp only at y7;have eX:=h.ic.lt h.hb;have N:=h.ic.lt h.hc;obtain⟨v0,_⟩:=h.ve.inner h.ic h.hb h.hi;obtain⟨v1,_⟩:=h.ve.inner h.ic h.hb h.hj;obtain⟨_,s1,_⟩:=c.cells;obtain⟨a,cp,F,yq,_,_,c1,_⟩:=c.v.aq.at h.hb;obtain⟨E,j,gk,Fg,_,d0,d1,_⟩:=c.v.aq.at h.hc;obtain⟨m,o,Z,S1,_,_,e1,_⟩:=c.v.aq.at h.hs;simp only at F c1 gk d0 d1 Z e1;obtain⟨g0,o0,cc,he,uv,M⟩:=eG F (by have:=h.hi;omega);cases he;obtain⟨_,_,x2⟩:=M w i rfl h.hi;have aw:g0≠A.ga:=by
  rcases F with⟨q,_⟩ | ⟨g',o',cap',xs,q,q1,_⟩
  ·cases q
  ·cases q;exact q1.ab c.v.aq.arr (by decide)
 rw[v0]at x2;obtain⟨B,hB⟩:=eZ (w.heap.size);obtain⟨w0,mw⟩:=eZ (w.alloc (.cells #[.int .i64 k,.slice E ces.length j] 96));have v:=bAl mw;have n:=iNw mw hB;obtain⟨_,_,y2⟩:=M w0 (i+1) (v.block _ uv) h.hj;rw[v1]at y2;have D:=c.below v;obtain⟨_,t1,_⟩:=D.cells;have t:w0.cell? ⟨A.ga,kd es (i+1)*2+1,none⟩=some (.slice m ses.length o):=(v.cell (p:=⟨A.ga,_,none⟩) c.v.aq.arr.lt).trans e1;have b0:w0.cell? ⟨B,0,none⟩=some (.int .i64 k):=n.c rfl;have b1:w0.cell? ⟨B,1,none⟩=some (.slice E ces.length j):=n.c rfl;have xt:S≠A.ga:=c.box.ab c.v.aq.arr (by decide);have AV:B≠A.ga:=by have:=c.v.aq.arr.lt;omega
 have Fe:(b:Int) <(A.ns.length:Int):=by omega
 have GZ:(kd es i:Int) <(A.ns.length:Int):=by omega
 have Gu:(kd es (i+1):Int) <(A.ns.length:Int):=by omega
 have Kf:(i:Int) <(es.length:Int):=by have:=h.hi;omega
 obtain⟨l,O⟩:=eZ (i+1);have yc:IntKind.i64.wrap ((i:Int)+1)=(l:Int):=(IntWalk.i64_in _ ⟨by omega,by omega⟩).trans (by omega);have R7:(l:Int) <(es.length:Int):=by have:=h.hj;omega
 have lw:((ses.length:Int) == 2)=true:=by rw[h2];rfl
 have L:=aA (D.cy (gk.below v) (Z.below v) (by have:=h.c2;omega) (by omega) k N);have J:=aA fun(A1:SA) (f1:fZ) (w1:World) (h1:Sp w1 S A1 f1) (hF:Frm (fun k=>k=A.ga) w w1) (hl:b<f1.c.length)=>h1.bm (c.dg F hF) h.hj (by omega) 2 hl;have ni:=aA D;have F0:=aA v;have G:Hid (kd es (i+1)≠kd es i):=h.cs.symm;have H:Hid (∀w1,Bl w0 w1->w1.cell? ⟨B,0,none⟩=some (.int .i64 k)/\w1.cell? ⟨B,1,none⟩=some (.slice E ces.length j)/\w1.cell? ⟨A.ga,kd es (i+1)*2+1,none⟩=some (.slice m ses.length o)):=fun w1 T=>by
  refine⟨?_,?_,?_⟩
  ·rw[(n.of (T.block _ n.lt)).cell];rfl
  ·rw[(n.of (T.block _ n.lt)).cell];rfl
  ·exact(T.cell (p:=⟨A.ga,_,none⟩) D.v.aq.arr.lt).trans t
 rw[O]at y2 t Gu J G H;rw[O];obtain⟨q,U⟩:=eZ (kd es i);obtain⟨s,V⟩:=eZ (kd es l);rw[U]at x2 d0 d1 GZ L G N;rw[V]at y2 t Gu G H;rw[U,V];clear M gk Z n D v0 v1 U V O h2;go_enter Tryz.func77,Tryz.ntmps77;go_wp2;go_region_held3 (fun W=>W.cell? ⟨S,1,none⟩=some (.slice (some ⟨A.ga,0,none⟩) A.ns.length (A.ns.length+A.nj.length))/\W.cell? ⟨B,0,none⟩=some (.int .i64 k)/\W.cell? ⟨B,1,none⟩=some (.slice E ces.length j)/\W.cell? ⟨A.ga,s*2+1,none⟩=some (.slice m ses.length o)) (first | assumption | go_keep | exact⟨u,Q,xh,K⟩ | exact⟨bY xt u,bY AV Q,bY AV xh,aMT G.out K⟩) ((go_at_call 90;refine L.out.mono ?_;rintro r w1 ⟨⟨y,rfl,Df,AO⟩,au,u,k0,k1,R,P,Y,X⟩;obtain⟨Q,xh,K⟩:=H.out w1 au));rw[dM Df];obtain⟨⟨f,C,Dl⟩,d8⟩:=ni.out.store au N AO;have I:Frm (fun k=>k=A.ga) w (set2 w1 A.ga q y):=(Frm.aa F0.out).trans d8;have Iz:=aA (J.out f _ _ C I (show b<g.c.length from eX));have sj:=aA I;have pq:=aA C;have t2:=C.cells.2.1;have JZ:S≠f.ga:=by rw[Dl.ga];exact xt
 have RE:(b:Int) <(f.ns.length:Int):=by have:=C.v.ln;have:f.ns.length=g.c.length:=this;omega
 have wh:Hid (∀x d,(mergeF g b q s k (ces++ses) (delE es l)).n x=some d->(setN (setN g q (k,ces++ses)) b (2,delE es l)).n x=some d):=fun x d hx=>tB x d hx;have yh:Hid (Fin (setN g q (k,ces++ses)) (mergeF g b q s k (ces++ses) (delE es l)) b (2,delE es l)):=⟨wh.out,(aX.mergeF ..).c,qD ..,(aX.mergeF ..).next,(aX.mergeF ..).gen,(aX.mergeF ..).m⟩;generalize set2 w1 A.ga q y=w2 at *;clear u Q xh K R P Y X AO d8 I C J H L;go_wp2;go_region_held3 (fun W=>W.cell? ⟨S,1,none⟩=some (.slice (some ⟨f.ga,0,none⟩) f.ns.length (f.ns.length+f.nj.length))) (first | assumption | go_keep | exact bY JZ u) ((go_at_call 78;refine Iz.out.mono ?_;rintro r w3 ⟨⟨z,rfl,BX,G5⟩,bu,u,k0,k1,R,P,Y,X⟩));rw[dM BX];have HR:Hid (Zt w S A (mergeF g b q s k (ces++ses) (delE es l)) (set2 w3 f.ga b z)):=Zt.trans sj.out Dl (pq.out.fin bu (show b<g.c.length from eX) G5 yh.out);clear u R P Y X;go_wp2;go_ret;exact⟨rfl,HR.out⟩
