import Derived.Test.YtaahkgkdpnnhhaaGreatSq10
import Derived.Test.YtaahkgkdpnnhhaaGreatHq31
set_option maxHeartbeats 9999999
set_option maxRecDepth 99999
set_option linter.all false
namespace Go.Proofs.YtaahkgkdpnnhhaaGreat
open Go.RowKit Fo
variable{a:Act}{K:Act→World→Prop}{ops:Array Oper}{cs:Array Value}{key:ByteArray}{Q:Exit→Act→World→Prop}{tree:Int}{l l':List (ByteArray×ByteArray)}{es:List E3}{B H b h t:Nat}{o:Oper}{α:Type}{u:Value}{w w' wr:World}{f g:fZ}
theorem yY(wk:Wk g t H){P:List Nat}{lo hi:OB}(p:aN g t H P b (h+1) lo hi)(hV:VE g)(ju:g.roots.length≤16)(af:g.nodes b=some (2,es)){i:Nat}(ew:i<es.length)(h2:2≤es.length){k:Int}{ces:List E3}(hc:g.nodes (kd es i)=some (k,ces))(cc:cu g (kd es i)=1)(c2:ces.length=2)(w:World)(S:Nat)(A:SA)(hS:Sp w S A g):
  Calls Tryz.prog 95 #[.pointer (some ⟨S,0,none⟩),.int .i64 b,.int .i64 i] w (ZpP w S A (if i+1<es.length then fillNext g b i (kd es i)else fillLast g b i (kd es i))):=by
 by_cases hn:i+1<es.length
 ·rw[if_pos hn]
  obtain⟨ses,hs,rq,b1,b2,b3⟩:=wk.sibling p af ew hn (by omega) hc cc;have hW:Wd g b es i (i+1) k ces ses:=⟨wk.ic,hV,ju,fun _ _ q=>wk.ent q,af,ew,hn,hc,hs,b1,b2,b3,c2,rq⟩;by_cases e:ses.length=2
  ·rw[rL af hc hs e]
   refine(nT hW e w S A hS).mono ?_;rintro r w' ⟨rfl,hz⟩;exact⟨fun q=>(by cases q),fun g' q=>(by cases q;exact⟨rfl,hz⟩)⟩
  ·rw[uC wk.ic hV af hn hc hs b1 b3 (by omega)]
   exact oX hW (by omega) w S A hS
 ·rw[if_neg hn]
  obtain⟨j,rfl⟩:∃j,i=j+1:=⟨i-1,by omega⟩;obtain⟨ses,hs,rq,b1,b2,b3⟩:=wk.sibling p af ew (show j<es.length by omega) (by omega) hc cc;have hW:Wd g b es (j+1) j k ces ses:=⟨wk.ic,hV,ju,fun _ _ q=>wk.ent q,af,ew,by omega,hc,hs,b1,b2,b3,c2,rq⟩;by_cases e:ses.length=2
  ·rw[rK wk.ic hV af ew hc hs e]
   refine(nS hW hn e w S A hS).mono ?_;rintro r w' ⟨rfl,hz⟩;exact⟨fun q=>(by cases q),fun g' q=>(by cases q;exact⟨rfl,hz⟩)⟩
  ·rw[uB wk.ic hV af ew hc hs b1 b3 (by omega)]
   exact oW hW hn (by omega) w S A hS
structure DeR(w:World)(S:Nat)(A:SA)(t:Nat)(key:ByteArray)(RM:Option fZ)(h:Nat)(c:Value)(wr:World):Prop where
 ex:∃(H:Nat) (f:fZ) (P:List Nat) (b:Nat) (lo hi:OB) (A':SA),c=.int .i64 b∧Wk f t H∧aN f t H P b h lo hi∧(P≠[]→3≤sz f.nodes b)∧cD f t H∧Mem f.nodes h b key∧VE f∧f.roots.length≤16∧Sp wr S A' f∧SaS A A'∧RM=delAt h f t b key
 frm:Frm (fun k=>k=A.ga∨k=A.gr) w wr
theorem Sp.chain{w1:World}{A A1:SA}(hF:Frm (fun k=>k=A.ga∨k=A.gr) w w1)(hA:SaS A A1){w2:World}(h2:Frm (fun k=>k=A1.ga) w1 w2):Frm (fun k=>k=A.ga∨k=A.gr) w w2:=hF.trans (h2.wide fun k _ e=>.inl (e.trans hA.ga))
theorem aBN(af:f.nodes b=some (2,es))(key:ByteArray):stepDel f b key=match shadow f (.ent b (bK es key))with
  | none=>none
  | some (g,c)=>if 2 <(Fo.look g c).2.length then some (g,c)else if bK es key+1 <(Fo.look g b).2.length then(fillNext g b (bK es key) c).map fun k=>(k,c)else(fillLast g b (bK es key) c).map fun k=>(k,c):=by
 unfold stepDel;rw[aE af];rfl
theorem aAN(q:stepDel f b key=none):delAt (h+1) f t b key=none:=by
 unfold delAt;rw[q]
theorem aGF{c:Nat}(x:Nat)(d:Nd)(h:(fallF g t b c).nodes x=some d):g.nodes x=some d:=by
 have h':upd g.nodes b none x=some d:=h;by_cases e:x=b
 ·rw[e,aD]at h';cases h'
 ·rw[aC _ _ e]at h';exact h'
theorem yZ(h:1≤(Fo.look g b).2.length):∃d,g.nodes b=some d∧Fo.look g b=d:=by
 cases e:g.nodes b with
 | none=>unfold Fo.look at h;rw[e]at h;simp at h
 | some d=>exact⟨d,rfl,aE e⟩
theorem wS(wk:Wk f t H)(hV:VE f)(ju:f.roots.length≤16)(er:cD f t H)(hm:Mem f.nodes H (aB f t) key)(w:World)(S:Nat)(A:SA)(hS:Sp w S A f):
  Calls Tryz.prog 71 #[.pointer (some ⟨S,0,none⟩),.int .i64 t,.string key] w (ZqP w S A (bV f t H key)):=by
 have so:=gS;have Fm:=iT;have ht:=wk.tl;have hE:=fun b' d' (fy:f.nodes b'=some d')=>(by have:=wk.ent fy;omega:d'.2.length≤10);obtain⟨_,s1,s2,_⟩:=hS.cells;obtain⟨r0,r1⟩:=hS.v.root ht;have h0:0≤(f.roots.getD t (0,0)).2:=(wk.ic.rb _ (aO ht)).1;have fk:(f.roots.getD t (0,0)).2=(aB f t:Int):=by unfold aB;omega
 rw[fk]at r1;have Rv:(t:Int) <(f.roots.length:Int):=by omega
 have yo:=aA (lY wk.ic hE w S A hS ju t ht);have Ag:Hid (bV f t H key=match shadow f (.root t)with
  | none=>none
  | some (g,r)=>delAt H g t r key):=rfl
 generalize bV f t H key=RM at *;clear hE fk h0 r0;go_enter Tryz.func71,Tryz.ntmps71;go_wp2_with fail;refine yo.out.mono ?_;intro r w1 hz;obtain⟨iN,uu,uv⟩:=hz;cases al:shadow f (.root t)with
 | none=>
  obtain rfl:=uu al;have HP:Hid (RM=none):=by show RM=none;rw[Ag.out];rw[al]
  clear uu uv al;go_wp2;go_ret;rw[HP.out];exact⟨iN.wide fun _ _ e=>.inl e,fun _=>rfl,fun g q=>by cases q⟩
 | some gc=>
  obtain⟨g,r⟩:=gc;obtain⟨rfl,A1,f1,br,Cg,yf,pj,nm,C1,DO,Mz,Bj⟩:=uv g r al;obtain⟨wk1,p1,a1,a2,a3,a4,a5,a6⟩:=wk.shadow_root al;have Ki:=hV.shadow_root al;have Ts:=(wk.shadow_root_mem al key H).1 hm;rw[al]at Ag;simp only at Ag;have AZ:t<f1.roots.length:=by rw[yf];exact ht
  obtain⟨ax,du⟩:=br.setRoot AZ r;have cq:Sp (w1.setCell ⟨A1.gr,t*2+1,none⟩ (.int .i64 r)) S A1 g:=ax.sub nm C1 pj DO Mz Bj;obtain⟨_,t1,t2,_⟩:=br.cells;obtain⟨_,z1⟩:=br.v.root AZ;have z2:=br.v.rts.frozen (t*2+1);have bu:Frm (fun k=>k=A.ga∨k=A.gr) w (w1.setCell ⟨A1.gr,t*2+1,none⟩ (.int .i64 r)):=(iN.wide fun _ _ e=>.inl e).trans (du.wide fun _ _ e=>.inr (e.trans Cg.gr));obtain⟨w2,bw⟩:=eZ (w1.setCell ⟨A1.gr,t*2+1,none⟩ (.int .i64 r));rw[bw]at cq bu;have Ru:(t:Int) <(f1.roots.length:Int):=by omega
  have KE:¬((r:Int)<0):=by omega
  have Az:g.roots.length≤16:=by rw[a6.len];exact ju
  have HD:Hid (DeR w S A t key RM H (.int .i64 r) w2):=⟨⟨H,g,[],r,none,none,A1,rfl,wk1,p1,fun q=>absurd rfl q,a5 er,Ts,Ki,Az,cq,Cg,Ag.out⟩,bu⟩;obtain⟨m,vj,oa⟩:=lN (DeR w S A t key RM);have Cc:=aA vj;have En:=aA oa;clear uu uv al iN du bu br ax cq yf pj nm C1 DO Mz Bj Cg yo a1 a2 a3 a4 a5 a6 wk1 p1 Ki Ts Az vj oa Ag hS wk hV hm er;go_wp2;clear bw;go_loopw [7,8,9,10] (fun c _ _ _ wr=>∃h,DeR w S A t key RM h c wr) (fun c _ _ _ wr=>m c wr)
  case atStart=>exact⟨H,HD.out⟩
  case round=>
   clear HD;obtain⟨h0,L4⟩:=hrel;have hR:=Cc.out _ _ _ L4;obtain⟨hh,WQ⟩:=eZ (m u7 wr);rw[WQ]at hR;clear L4;obtain⟨⟨H1,f1,P1,b,lo,hi,A1,rfl,wk,p,h3,er,hm,hV,ju,hS,hA,TH⟩,hF⟩:=hR;have Ag:=aA TH;have HF:=aA hF;have HA:=aA hA;obtain⟨_,s1,_⟩:=hS.cells;have wd:S≠A1.ga:=hS.box.type_ne hS.v.nds.arr (by decide);clear TH hF hA;cases hh with
   | zero=>
    obtain⟨es,af,hn,hc⟩:=p.leaf wk;obtain⟨es',q1,j0,AL,gi⟩:=hm;rw[af]at q1;cases q1;have ah:=wk.ent af;simp only at ah;have d5:=wk.ic.lt af;obtain⟨a,cp,dw,we,_,c0,c1,_⟩:=hS.v.nds.at af;simp only at dw c0 c1;obtain⟨g0,o0,cc,he,vh,aa⟩:=dW dw (by omega);cases he;have D5:(b:Int) <(A1.ns.length:Int):=by omega
    have Hz:Hid (RM=some (setN f1 b (1,delE es (cLt es key)))):=by
     show RM=_
     rw[Ag.out];unfold delAt;rw[aE af]
    have BB:=aA fun(i:Nat) (hi:i<es.length)=>hS.withoutM (i:=i) dw hi (by omega) 1 d5;have HS:=aA hS;have Ue:=aA gi;clear dw wk p hV hS Ag er h3;go_wp2;go_loopw [12] (fun i wx=>∃j:Nat,j≤j0∧i=.int .i64 j∧Is2 (.bool false) (.bool false) wx wr∧Hid (∀x,x<j→ky es x≠key)) (fun i _=>es.length -(intOf i).toNat)
    case atStart=>exact⟨0,by omega,rfl,⟨rfl,rfl⟩,fun x hx=>by omega⟩
    case round=>
     obtain⟨j,hj,rfl,⟨_,Xe⟩,ay⟩:=hrel;subst Xe;have ai:j<es.length:=by omega
     obtain⟨x0,_,_⟩:=aa wr j rfl ai;have dq:(j:Int) <(es.length:Int):=by omega
     have HK:Hid (ky es j=(es.getD j e0).1):=rfl;clear aa;generalize (es.getD j e0).1=x at *;by_cases he:x=key
     ·have hq:(x.toList == key.toList)=true:=by rw[he];exact beq_self_eq_true _
      have HC:Hid (cLt es key=j):=(jT hn.srt ai (HK.out.trans he)).2;have LJ:=aA (BB.out j ai);clear he BB;go_wp2;go_region_held3 (fun W=>W.cell? ⟨S,1,none⟩=some (.slice (some ⟨A1.ga,0,none⟩) A1.ns.length (A1.ns.length+A1.nj.length))) (first | assumption | go_keep | exact bU wd db) ((go_at_call 96;refine LJ.out.mono ?_;rintro r w3 ⟨⟨y,rfl,DA,ze⟩,ce,db,k0,k1,gi,gx,jl,fz⟩));rw[dL DA];obtain⟨⟨A4,aw,IE⟩,jm⟩:=HS.out.store ce d5 ze;have HR:Hid (ZqP w S A RM (.returned (.bool true)) (set2 w3 A1.ga b y)):=by
       show ZqP _ _ _ _ _ _
       rw[Hz.out,HC.out];refine⟨Sp.chain HF.out HA.out jm,fun q=>(by cases q),fun g2 q2=>?_⟩;cases q2;exact⟨rfl,A4,aw,HA.out.trans IE⟩
      clear db gi gx jl fz aw jm;go_wp2;go_ret;exact HR.out
     ·have hq:(x.toList == key.toList)=false:=by rw[beq_eq_false_iff_ne];exact fun e=>he (gR e)
      have Q7:j<j0:=by
       rcases Nat.lt_or_eq_of_le hj with q | q
       ·exact q
       ·exfalso;apply he;rw[←HK.out,q];exact Ue.out
      have LG:Hid (∀z,z<j+1→ky es z≠key):=fun z hz=>by
       by_cases e:z=j
       ·rw[e,HK.out];exact he
       ·exact ay.out z (by omega)
      clear he BB;go_wp2;go_roundw
      case rel=>exact⟨j+1,by omega,by go_num,⟨rfl,rfl⟩,LG.out⟩
      case measure=>simp[intOf];omega
   | succ h=>
    obtain⟨es1,ep,ye,lv⟩:=p.inner wk;have RF:es1.length≤5:=wk.ent ep;have d5:=wk.ic.lt ep;have Df:=fun b' d' (fy:f1.nodes b'=some d')=>(by have:=wk.ent fy;omega:d'.2.length≤10);have PK:=Wk.two p er h3 ep;obtain⟨a,vc,ke,we,_,c0,c1,_⟩:=hS.v.nds.at ep;simp only at ke c0 c1;have H0:=aA (rR ye.srt key);have ew:=eE key lv;obtain⟨v1,_⟩:=hV.inner wk.ic ep ew;obtain⟨g1,o1,cc1,EQ,g9,uf⟩:=dW ke (by omega);cases EQ;have Bd:=vE (.slice (some ⟨g1,o1,none⟩) es1.length vc) es1 key wr ke (by omega);rw[H0.out]at Bd;have yn:=aA (aBN ep key);have SP:=aA fun(g:fZ) (c:Nat) (q:stepDel f1 b key=some (g,c))=>wk.delRound p er h3 hm q;have DU:Hid (stepDel f1 b key=none→delAt (h+1) f1 t b key=none):=aAN;generalize bK es1 key=i at *;obtain⟨x0,x1,x2⟩:=uf wr i rfl ew;rw[v1]at x0 x1 x2;have Q1:(i:Int) <(es1.length:Int):=by omega
    have D5:(b:Int) <(A1.ns.length:Int):=by omega
    have yo:=aA (gZ wk.ic Df hV wr S A1 hS ju b i es1 ep ew);clear uf v1;go_wp2_with fail;refine Bd.mono ?_;rintro r w2 ⟨rfl,rfl⟩;go_wp2_with fail;refine yo.out.mono ?_;intro r w3 hz;obtain⟨bu,uu,uv⟩:=hz;cases al:shadow f1 (.ent b i)with
    | none=>
     obtain rfl:=uu al;have HP:Hid (RM=none):=by
      show RM=none
      rw[Ag.out];exact DU.out (by rw[yn.out,al])
     clear uu uv al;go_wp2;go_ret;rw[HP.out];exact⟨Sp.chain HF.out HA.out bu,fun _=>rfl,fun g q=>by cases q⟩
    | some gc=>
     obtain⟨g,c⟩:=gc;obtain⟨rfl,A3,f3,cq,BD,Au,bg⟩:=uv g c al;obtain⟨wk2,p2,p3,⟨es2,m1,m2,m3,m4⟩,m5,m6,m7,_,m9⟩:=wk.shadow_ent p ep ew al;have sn:=hV.shadow_ent wk.ic ep ew al;rw[al]at yn;simp only at yn;obtain⟨es',xo⟩:=eZ (es1.set i (ky es1 i,.empty,(c:Int)));rw[xo]at bg;have oa:g.nodes b=some (2,es'):=by
      have:=bg.sub b _ m1
      have e:(setN f3 b (2,es')).nodes b=some (2,es'):=aD _ _ _;rw[e]at this;rw[m1];exact this.symm
     have Fy:kd es' i=c:=by rw[m1]at oa;cases oa;exact m4
     obtain⟨⟨k,ces⟩,jd⟩:=wk2.ic.live (x:=c) (by rw[m6];omega);have au:=wk2.ent jd;have rh:=wk2.ent oa;simp only at au rh;have xl:2≤ces.length:=by
      have:=(p3.ok wk2.ok).2 (by simp);unfold sz at this;rw[jd]at this;exact this
     have EC:b<f3.cur.length:=by rw[Au];exact d5
     have lz:yE.Sl w3 (.slice (some ⟨g1,o1,none⟩) es1.length vc) es1:=ke.frm bu fun g cs hg=>hg.type_ne hS.v.nds.arr (by decide);obtain⟨y0,y1,y2⟩:w3.cell? ⟨g1,o1+i*3,none⟩=some (.string (ky es1 i))∧w3.cell? ⟨g1,o1+i*3+1,none⟩=some (.string .empty)∧w3.cell? ⟨g1,o1+i*3+2,none⟩=some (.int .i64 (kd es1 i)):=by
      have av:g1≠A1.ga:=by
       rcases ke with⟨q,_⟩ | ⟨g',o',cap',xs,q,q1,_⟩
       ·cases q
       ·cases q;exact q1.type_ne hS.v.nds.arr (by decide)
      have hw:∀k,w3.cell? ⟨g1,k,none⟩=w2.cell? ⟨g1,k,none⟩:=fun k=>by simp[World.cell?,bu.block g1 g9 av]
      exact⟨(hw _).trans x0,(hw _).trans x1,(hw _).trans x2⟩
     have H8:Hid (Calls Tryz.prog 94 #[.slice (some ⟨g1,o1,none⟩) es1.length vc,.int .i64 i,.agg #[.string (ky es1 i),.string .empty,.int .i64 c]] w3 fun r w'=>∃u,r=.returned u∧yE.Own w3.heap.size w' u es'∧Bl w3 w'):=by
      rw[←xo];exact eP _ es1 i (ky es1 i,ByteArray.empty,(c:Int)) w3 lz ew (by omega)
     have yz:¬((c:Int)<0):=by omega
     have H2:Hid (Frm (fun k=>k=A.ga∨k=A.gr) w w3):=Sp.chain HF.out HA.out bu;have LF:Hid (SaS A A3):=HA.out.trans BD;have Az:Hid (g.roots.length≤16):=by show g.roots.length≤16;rw[m9.len];exact ju
     have Em:Hid (es'.length=es1.length):=by show es'.length=_;rw[←xo,List.length_set]
     clear uu uv ke hS xo m1 m2 m3 m4 m5 m7 m9 Df Bd yo bu BD Au x0 x1 x2 lz hm wk p hV er h3;go_wp2_with fail;refine H8.out.mono ?_;rintro r w4 ⟨u,rfl,hu,jq⟩;obtain⟨x,rfl,zc,Ac⟩:=hu.nv 2;have aw:=cq.below jq;obtain⟨k0,k1,gi,gx,jl,fz,QD⟩:=aw.wr EC;obtain⟨_,t1',_⟩:=aw.cells;obtain⟨⟨A5,cw,zt⟩,el⟩:=cq.fin jq EC Ac bg;have uw:Hid (Frm (fun k=>k=A.ga∨k=A.gr) w (set2 w4 A3.ga b x)):=Sp.chain H2.out LF.out el;have GY:Hid (SaS A A5):=LF.out.trans zt;have sj:=dL (w:=w4) (g:=A3.ga) (q:=b) zc;obtain⟨w5,Nb⟩:=eZ (set2 w4 A3.ga b x);rw[Nb]at cw uw sj;have IB:=aA cw;obtain⟨_,t5,_⟩:=cw.cells;obtain⟨ac,cpc,fv,JC,_,d0,d1,EL⟩:=cw.v.nds.at jd;simp only at fv d0 d1 EL;have Fq:(c:Int) <(A5.ns.length:Int):=by omega
     clear aw jq el zt Ac hu cq Nb cw;go_upto_if 89 with fail
     clear sj;rw[aE jd,aE oa]at yn;simp only at yn;by_cases xq:ces.length=2
     ·have ti:((ces.length:Int) == 2)=true:=by rw[xq];rfl
      rw[if_neg (by omega)]at yn;have E7:i<es'.length:=by rw[Em.out];exact ew
      have OH:=yY wk2 p2 sn Az.out oa E7 (by rw[Em.out];exact PK) (by rw[Fy];exact jd) (by rw[Fy];exact m6) xq w5 S A5 IB.out;rw[Fy]at OH;obtain⟨FW,OC⟩:=eZ ((if i+1<es'.length then fillNext g b i c else fillLast g b i c));rw[OC]at OH;have TJ:stepDel f1 b key=FW.map fun k=>(k,c):=by
       rw[yn.out,←OC];split<;>rfl
      have Vf:∀g2,FW=some g2→VE g2:=fun g2 q=>by
       rw[←OC]at q;split at q
       ·rename_i hn
        exact sn.fillNext wk2.ic oa hn q
       ·rename_i hn
        have:=PK
        exact sn.fillLast wk2.ic oa E7 (by have:=Em.out;omega) q
      have Ux:=aA OH;rw[ti];clear xq ti fv OH yn OC Fy;go_wp2_with fail;refine Ux.out.mono ?_;intro e w6 hz;cases FW with
      | none=>
       obtain⟨rfl,Ci⟩:=hz.no rfl;have HP:Hid (RM=none):=by
        show RM=none
        rw[Ag.out];exact DU.out (by rw[TJ];rfl)
       clear hz;go_wp2;go_ret;rw[HP.out];exact⟨Sp.chain uw.out GY.out Ci,fun _=>rfl,fun g q=>by cases q⟩
      | some g2=>
       obtain⟨rfl,⟨⟨A7,iz,DZ⟩,Aj⟩⟩:=hz.yes g2 rfl;obtain⟨lq,g8⟩:=SP.out g2 c TJ;have TT:=Vf g2 rfl;have GZ:Hid (Frm (fun k=>k=A.ga∨k=A.gr) w w6):=Sp.chain uw.out GY.out Aj;have DD:Hid (SaS A A7):=GY.out.trans DZ;have TG:g2.roots.length≤16:=by rw[lq.len];exact ju
       have d8:1≤(Fo.look g2 b).2.length:=by rcases g8 with⟨e1,_⟩ | ⟨e1,_⟩<;>omega
       obtain⟨d7,V9,gk⟩:=yZ d8;rw[gk]at g8 d8;obtain⟨_,t7,t72,_⟩:=iz.cells;obtain⟨a7,cp7,_,Vq,_,_,e17,_⟩:=iz.v.nds.at V9;have MJ:(b:Int) <(A7.ns.length:Int):=by omega
       rcases g8 with⟨e1,e2,e3,P',lo',am,e4,e5,e6,e7⟩ | ⟨e1,e2,e3,e4,H',e5,e6,e7,e8⟩
       ·have Dd:DeR w S A t key RM h (.int .i64 c) w6:=⟨⟨H1,g2,P',c,lo',am,A7,rfl,e3,e4,e5,e6,e7,TT,TG,iz,DD.out,Ag.out.trans e2⟩,GZ.out⟩
        have Hz:=aA Dd;have h1:=En.out _ _ _ Dd;have lv:((d7.2.length:Int) == 1)=false:=by rw[beq_eq_false_iff_ne];omega
        clear hz Dd e1 e2 e3 e4 e5 e6 e7 iz Aj;go_wp2;go_roundw
        case rel=>exact⟨h,Hz.out⟩
        case measure=>omega
       ·obtain⟨ni,yu⟩:=iz.setRoot e3 c
        have py:Sp (w6.setCell ⟨A7.gr,t*2+1,none⟩ (.int .i64 c)) S A7 (fallF g2 t b c):=ni.sub (fun x d hx=>(show g2.nodes x=some d from aGF (g:=g2) (t:=t) (b:=b) (c:=c) x d hx)) (by simp[fallF,setL,freeB]) rfl rfl rfl rfl;have Vb:(fallF g2 t b c).roots.length≤16:=by
         have:(fallF g2 t b c).roots.length=g2.roots.length:=(aW.fallF ..).len
         rw[this];exact TG
        have Dd:DeR w S A t key RM h (.int .i64 c) (w6.setCell ⟨A7.gr,t*2+1,none⟩ (.int .i64 c)):=⟨⟨H',fallF g2 t b c,[],c,none,none,A7,rfl,e5,e6,fun q=>absurd rfl q,e7,e8,TT.fallF t b c,Vb,py,DD.out,Ag.out.trans e4⟩,GZ.out.trans (yu.wide fun k _ e=>.inr (e.trans DD.out.gr))⟩;have Hz:=aA Dd;have h1:=En.out _ _ _ Dd;have lv:((d7.2.length:Int) == 1)=true:=by rw[e1];rfl
        obtain⟨_,z1'⟩:=iz.v.root e3;have z2':=iz.v.rts.frozen (t*2+1);have XO:(t:Int) <(g2.roots.length:Int):=by omega
        clear hz Dd e1 e2 e3 e4 e5 e6 e7 e8 iz Aj ni py yu;go_wp2;go_roundw
        case rel=>exact⟨h,Hz.out⟩
        case measure=>omega
     ·have ti:((ces.length:Int) == 2)=false:=by rw[beq_eq_false_iff_ne];omega
      rw[if_pos (by omega)]at yn;obtain⟨lq,g8⟩:=SP.out g c yn.out;have Dd:DeR w S A t key RM h (.int .i64 c) w5:=by
       rcases g8 with⟨e1,e2,e3,P',lo',am,e4,e5,e6,e7⟩ | ⟨e1,_⟩
       ·exact⟨⟨H1,g,P',c,lo',am,A5,rfl,e3,e4,e5,e6,e7,sn,Az.out,IB.out,GY.out,Ag.out.trans e2⟩,uw.out⟩
       ·exfalso;rw[aE oa]at e1;have:=Em.out;simp only at e1;omega
      have Hz:=aA Dd;have h1:=En.out _ _ _ Dd;rw[ti];clear xq ti fv Dd g8 lq;go_wp2;go_roundw
      case rel=>exact⟨h,Hz.out⟩
      case measure=>omega
def plZ(f:fZ)(tree:Int):Int:=match atT f tree with
 | none=>-1
 | some t=>t
theorem aDF(ht:t<f.roots.length)(h:∀x,x<t→rid f x≠tree)(he:rid f t=tree):atT f tree=some t:=by
 unfold atT;rw[List.find?_range_eq_some];exact⟨by simpa using he,by simpa using ht,fun x hx=>by have:=h x hx;simpa using this⟩
theorem xR(h:∀x,x<f.roots.length→rid f x≠tree):atT f tree=none:=by
 unfold atT;rw[List.find?_eq_none];intro x hx;have:=h x (List.mem_range.1 hx);simpa using this
theorem iV(w:World)(S:Nat)(A:SA)(hS:Sp w S A f)(ju:f.roots.length≤100)(tree:Int):
  Calls Tryz.prog 39 #[.pointer (some ⟨S,0,none⟩),.int .i64 tree] w fun r w'=>r=.returned (.int .i64 (plZ f tree))∧w'=w:=by
 obtain⟨_,_,s2,_⟩:=hS.cells;go_enter Tryz.func39,Tryz.ntmps39;go_wp2;go_loopw [5] (fun i wr=>∃k:Nat,k≤f.roots.length∧i=.int .i64 k∧Is2 (.bool false) (.bool false) wr w∧Hid (∀x,x<k→rid f x≠tree)) (fun i _=>f.roots.length -(intOf i).toNat)
 case atStart=>exact⟨0,by omega,rfl,⟨rfl,rfl⟩,fun x hx=>by omega⟩
 case round=>
  obtain⟨k,hk,rfl,⟨_,wj⟩,ay⟩:=hrel;subst wj;by_cases ai:k<f.roots.length
  ·obtain⟨r0,_⟩:=hS.v.root ai
   have lm:(k:Int) <(f.roots.length:Int):=by omega
   have HR:Hid (rid f k=(f.roots.getD k (0,0)).1):=rfl;generalize (f.roots.getD k (0,0)).1=x at *;cases ex:(x == tree)with
   | true=>
    have HT:Hid (plZ f tree=(k:Int)):=by
     show plZ f tree=_
     unfold plZ;rw[aDF ai ay.out (HR.out.trans (by simpa using ex))]
    go_wp2
    go_ret
    exact⟨by rw[HT.out];rfl,rfl⟩
   | false=>
    have HA:Hid (∀z,z<k+1→rid f z≠tree):=fun z hz=>by
     by_cases e:z=k
     ·rw[e,HR.out];simpa using ex
     ·exact ay.out z (by omega)
    go_wp2
    go_roundw
    case rel=>exact⟨k+1,by omega,by go_num,⟨rfl,rfl⟩,HA.out⟩
    case measure=>simp[intOf];omega
  ·obtain rfl:k=f.roots.length:=by omega
   have HT:Hid (plZ f tree=-1):=by
    show plZ f tree=_
    unfold plZ;rw[xR ay.out]
   go_wp2
   go_ret
   exact⟨by rw[HT.out];rfl,rfl⟩
theorem pK(v:Value)(c:List Int)(w:World)(hv:y64.Sl w v c)(hl:c.length≤512)(h0:0<c.length):
  Calls Tryz.prog 86 #[v] w fun r w'=>r=.returned (.int .i64 (iP c c.length))∧w'=w:=by
 obtain⟨g,o,cc,rfl,hg,_,aa⟩:=mT hv h0;have KA:∀k,iP c k≤k:=by
  intro k;induction k with
  | zero=>exact nR _
  | succ k ih=>unfold iP;split<;>omega
 go_enter Tryz.func86,Tryz.ntmps86
 go_wp2
 go_loopw [3,4] (fun n i wr=>∃k:Nat,k≤c.length∧i=.int .i64 k∧Is2 n (.int .i64 (iP c k)) wr w) (fun _ i _=>c.length -(intOf i).toNat)
 case atStart=>exact⟨0,by omega,rfl,⟨rfl,rfl⟩⟩
 case round=>
  obtain⟨k,hk,rfl,⟨hn,wj⟩⟩:=hrel;subst wj;subst hn;by_cases ai:k<c.length
  ·have x0:=aa wr k rfl ai
   have lm:(k:Int) <(c.length:Int):=by omega
   have HP:Hid (iP c (k+1)=iP c k+if 0<c.getD k 0 then 1 else 0):=rfl;have Ku:=KA k;clear aa KA;generalize c.getD k 0=x at *;generalize iP c k=pk at *;have Xc:IntKind.i64.wrap ((pk:Int)+1)=((pk+1:Nat):Int):=(IntWalk.i64_in _ ⟨by omega,by omega⟩).trans (by omega);by_cases hx:0<x
   ·rw[if_pos hx]at HP
    go_wp2
    go_roundw
    case rel=>exact⟨k+1,by omega,by go_num,⟨by rw[HP.out];first | rfl | go_num,rfl⟩⟩
    case measure=>simp[intOf];omega
   ·rw[if_neg hx]at HP
    go_wp2
    go_roundw
    case rel=>exact⟨k+1,by omega,by go_num,⟨by rw[HP.out];rfl,rfl⟩⟩
    case measure=>simp[intOf];omega
  ·obtain rfl:k=c.length:=by omega
   clear aa KA;go_wp2;go_ret;exact⟨rfl,rfl⟩
structure CtS(f:fZ):Prop where
 ic:IC f
 r16:f.roots.length≤16
 ent:∀b d,f.nodes b=some d→d.2.length≤10
 com:∀i,0≤co f i∧co f i≤65535
theorem CtS.k(h:CtS f):∀x,cu f x≤1000000:=h.ic.counts h.r16 h.ent
theorem qG(h:CtS f)(w:World)(S:Nat)(A:SA)(hS:Sp w S A f):
  Calls Tryz.prog 91 #[.pointer (some ⟨S,0,none⟩)] w fun r w'=>r=.returned (.int .i64 (fI f.cur f.com))∧Bl w w':=by
 have h8:=h.ic.n8;have h5:=h.ic.n512;have au:=h.ic.len;obtain⟨_,_,_,_,_,s5,_⟩:=hS.cells;have BP:=hS.drew;have HC:Hid (Calls Tryz.prog 33 #[.pointer (some ⟨S,0,none⟩)] w.drew fun r w1=>∃a c,r=.returned (.slice a f.cur.length c)∧y64.Sl w1 (.slice a f.cur.length c) f.cur∧Bl w w1):=by
  refine(fS h.ic h.k h.ent w.drew S A BP (by have:=h.r16;omega)).mono ?_;rintro r w1 ⟨u,rfl,hu,hb⟩;obtain⟨a,c,rfl⟩:=hu.sl.len;exact⟨a,c,rfl,hu.sl,(bQ _ w).drew.trans hb⟩
 obtain⟨gm,om,cm,sf,_,_,_⟩:=mT hS.v.com (by omega);have HS:=aA hS;have HB:Hid (∀x,0≤cu f x∧cu f x≤1000000):=fun x=>⟨h.ic.dom.pos x,h.k x⟩;have HM:=aA h.com;rw[sf]at s5;have KU:=aA sf;have O0:Hid (fI f.cur f.com=((frI f.cur f.com f.cur.length f.cur.length).length:Int)):=by
  show fI _ _=_
  unfold fI frI;rw[List.length_map]
 have Uf:=aA au;clear au sf BP;go_enter Tryz.func91,Tryz.ntmps91;go_wp2;go_region_held3 (fun W=>W.cell? ⟨S,5,none⟩=some (.slice (some ⟨gm,om,none⟩) f.com.length cm)) (first | assumption | go_keep)
  ((first
   | (go_at_call 33;refine HC.out.mono ?_;rintro r w1 ⟨ca,cc,rfl,dw,ao⟩;have Im:w1.cell? ⟨S,5,none⟩=some (.slice (some ⟨gm,om,none⟩) f.com.length cm):=(by rw[←KU.out];exact(HS.out.below ao).cells.2.2.2.2.2.1))
   | (go_at_call 84;refine(sD ca (some ⟨gm,om,none⟩) cc cm f.cur f.com w1 (dw.nts fun i=>by have:=HB.out i;unfold cu at this;omega) ((by rw[←KU.out];exact(HS.out.below ao).v.com:y64.Sl w1 (.slice (some ⟨gm,om,none⟩) f.com.length cm) f.com).nts fun i=>by have:=HM.out i;unfold co at this;omega) Uf.out h5 h8).mono ?_;rintro r w2 ⟨u,rfl,od,ba⟩;obtain⟨ua,uc,rfl⟩:=od.shape;have Fl:w2.cell? ⟨S,5,none⟩=some (.slice (some ⟨gm,om,none⟩) f.com.length cm):=(by rw[←KU.out];exact((HS.out.below ao).below ba).cells.2.2.2.2.2.1))))
 have HR:Hid (Bl w w2):=ao.trans (ba.mono ao.size);clear Im Fl;go_wp2;go_ret;exact⟨by rw[O0.out];rfl,HR.out⟩
def pR(f:fZ):Bool:=decide (2*fJ f.cur.length≤fI f.cur f.com)
theorem pM(h:CtS f)(w:World)(S:Nat)(A:SA)(hS:Sp w S A f):
  Calls Tryz.prog 70 #[.pointer (some ⟨S,0,none⟩)] w fun r w'=>r=.returned (.bool (pR f))∧Bl w w':=by
 obtain⟨s0,_⟩:=hS.cells;have h8:=h.ic.n8;have h5:=h.ic.n512;have HF:Hid (Calls Tryz.prog 91 #[.pointer (some ⟨S,0,none⟩)] w.drew fun r w'=>r=.returned (.int .i64 (fI f.cur f.com))∧Bl w w'):=(qG h w.drew S A hS.drew).mono fun r w' hw=>⟨hw.1,(bQ _ w).drew.trans hw.2⟩;have Uq:=aA fun(w':World)=>qN f.cur.length w';have NE:0≤fJ f.cur.length∧fJ f.cur.length≤1000:=by unfold fJ;split<;>omega
 have Up:Hid (pR f=decide (2*fJ f.cur.length≤fI f.cur f.com)):=rfl;have HS:=aA hS;generalize fJ f.cur.length=rv at *;generalize fI f.cur f.com=fc at *;have Ya:IntKind.i64.wrap (2*rv)=2*rv:=IntWalk.i64_in _ ⟨by omega,by omega⟩;go_enter Tryz.func70,Tryz.ntmps70;go_wp2;go_region_held3 (fun W=>W.cell? ⟨S,0,none⟩=some (.int .i64 f.cur.length)) (first | assumption | go_keep)
  ((first
   | (go_at_call 91;refine HF.out.mono ?_;rintro r w1 ⟨rfl,ao⟩;have db:w1.cell? ⟨S,0,none⟩=some (.int .i64 f.cur.length):=(HS.out.below ao).cells.1)
   | (go_at_call 92;refine(Uq.out _).mono ?_;rintro r w2 ⟨rfl,rfl⟩)))
 clear db;go_wp2;go_ret;exact⟨by rw[Up.out];rfl,ao⟩
theorem pX{P:Program}(s x:Operand)(t tn:TypeId)
  (ho:o.op=.call {callee:=.builtin .append,args:=#[s,x],argTypes:=#[t,tn]}) (vs vx:Value) (hs:a.eval s=vs) (hx:a.eval x=vx)
  (v':Value) (w':World) (hr:(Builtin.append_ #[t,tn] o.type #[vs,vx]).run P w=.ok v' w') (h:K (a.put o.dst v') w'):Oper.wp P o a w K Q:=by
 unfold Oper.wp execOp;simp only[ho,resolve,invoke,builtin,Sem.run_bind,Sem.run_pure,Result.andThen_ok,List.map_toArray,List.map_cons,List.map_nil,hs,hx,hr];exact h
theorem Ely.stepApp1(Y:Ely α){E:Prop}(ie:o.guard=none)(s x:Operand)
  (ho:o.op=.call {callee:=.builtin .append,args:=#[s,x],argTypes:=#[Y.s,Y.s]})
  {base:Nat} {w:World} {u:Value} {l:List α} (ap:Y.Own base w u l) (hs:a.eval s=u) (e:α) {cs:Array Value} (hc:cs=(Y.cell e).toArray) (hx:a.eval x=.slice (some ⟨w.heap.size,0,none⟩) 1 1) (hl:l.length<1000000) (hb:base≤w.heap.size)
  (h:∀u' w',Y.Own base w' u' (l++[e])→Below base w w'→Frm (fun k=>base≤k∧∃cs,IsC w k cs Y.t) w w'→K (a.put o.dst u') w'):
  if Region.wanted o (yielded ops a.tmps)=true then Oper.wp Tryz.prog o a (w.alloc (.cells cs Y.t)).drew K Q else E:=by
 rw[if_pos (by simp[Region.wanted,ie])];subst hc;have hB:=((bQ w.heap.size w).alloc (nR _) (.cells (Y.cell e).toArray Y.t)).drew;have Ry:Y.Sl (w.alloc (.cells (Y.cell e).toArray Y.t)).drew (.slice (some ⟨w.heap.size,0,none⟩) 1 1) [e]:=(Ely.Sl.new w e rfl).below (bQ _ _).drew;have sg:=ap.below hB;obtain⟨ag,junk,rfl,h1,h2⟩:=sg;obtain⟨u',W',a',junk',hr,rfl,k1,k2,k3⟩:=Y.append ag l junk [e] _ _ h1 Ry (by simp;omega);have bd:w.heap.size≤(w.alloc (.cells (Y.cell e).toArray Y.t)).drew.heap.size:=hB.size;have k5:Below base w W':=(hB.mono hb).trans (k3.below (lT hb bd) fun k e=>h2 k e);have k4:Frm (fun k=>base≤k∧∃cs,IsC w k cs Y.t) w W':=by
  refine⟨k5.os,k5.tape,k5.output,k5.size,fun k hk hn=>?_⟩;refine(k3.block k (lL hk bd) fun q=>hn ⟨h2 k q,Y.row (l++junk),?_⟩).trans (hB.block k hk);have:=h1.arr k q;unfold IsC at this ⊢;rw[←hB.block k hk];exact this
 refine pX _ _ _ _ ho _ _ hs hx _ _ (hr _) (h _ _ ⟨a',junk',by simp,k1,fun g e=>?_⟩ k5 k4);rcases k2 g e with q | q
 ·exact h2 g q
 ·omega
theorem Ely.wpApp1F(Y:Ely α){rest:List Oper}(ie:o.guard=none)(s x:Operand)
  (ho:o.op=.call {callee:=.builtin .append,args:=#[s,x],argTypes:=#[Y.s,Y.s]})
  {w:World} {ag:Option Nat} {l junk:List α} (ap:Y.Rw w ag l junk) (hs:a.eval s=.slice (adr ag) l.length (l.length+junk.length)) (e:α) {cs:Array Value} (hc:cs=(Y.cell e).toArray) (hx:a.eval x=.slice (some ⟨w.heap.size,0,none⟩) 1 1) (hl:l.length<1000000)
  (h:∀a' junk' w',Y.Rw w' a' (l++[e]) junk'→(∀g,a'=some g→ag=some g∨w.heap.size≤g)→Frm (fun k=>ag=some k) w w'→wpList Tryz.prog ops Q rest (a.put o.dst (.slice (adr a') (l++[e]).length ((l++[e]).length+junk'.length))) w'):
  wpList Tryz.prog ops Q (o :: rest) a (w.alloc (.cells cs Y.t)):=by
 subst hc;have hB:=(bQ w.heap.size w).alloc (nR _) (.cells (Y.cell e).toArray Y.t);have hF:Frm (fun k=>ag=some k) w (w.alloc (.cells (Y.cell e).toArray Y.t)):=Frm.of_below hB;have h1:=ap.frm (Frm.of_below (S:=fun _=>False) hB) fun _ _=>id;obtain⟨u',W',a',junk',hr,rfl,k1,k2,k3⟩:=Y.append ag l junk [e] _ _ h1 (Ely.Sl.new w e rfl) (by simp;omega);have:=h a' junk' W' k1 (fun g q=>(k2 g q).imp id fun q=>lT hB.size q) (hF.trans k3);refine cH ie _ _ _ _ ho _ _ hs hx _ _ (hr _) ?_;simpa using this
def aKK(p:ByteArray×ByteArray):List Value:=[.string p.1,.string p.2]
def yI:Ely (ByteArray×ByteArray) where
 cell:=aKK
 n:=2
 z:=(.empty,.empty)
 zv:=.agg #[.string .empty,.string .empty]
 t:=85
 s:=40
 by':=32
 hn:=fun _=>rfl
 hp:=by omega
 one:=fun a v hv=>by simp only[aKK,List.mem_cons,List.not_mem_nil,or_false]at hv;rcases hv with rfl | rfl<;>rfl
 hz:=by kernel_rfl
 us:=Tryz.underlying40
 hb:=by omega
 info:=oT (by kernel_rfl)
theorem aKY(W:World)(k v:ByteArray):(Instr.build 85 #[(0,.string k),(1,.string v)]).run Tryz.prog W=.ok (.agg #[.string k,.string v]) W:=by kernel_rfl
structure ItR(w:World)(B:Nat)(l:List (ByteArray×ByteArray))(u:Value)(wr:World):Prop where
 own:yI.Own B wr u l
 frm:Frm (fun k=>k=B) w wr
theorem ItR.app{u':Value}(h:ItR w B l u wr)(bo:IsC w (B+1) cs 108)(hs:w.heap.size=B+2)(ho:yI.Own B w' u' l')(hF:Frm (fun k=>B≤k∧∃cs,IsC wr k cs 85) wr w'):ItR w B l' u' w':=by
 refine⟨ho,⟨hF.os.trans h.frm.os,hF.tape.trans h.frm.tape,hF.output.trans h.frm.output,lT h.frm.size hF.size,fun k hk hn=>?_⟩⟩;refine(hF.block k (lL hk h.frm.size) fun q=>?_).trans (h.frm.block k hk hn);obtain⟨q1,cs',q2⟩:=q;have e:k=B+1:=by omega
 rw[e]at q2;exact(bo.frm h.frm (by omega)).type_ne q2 (by decide) rfl
structure InR(w w6:World)(B W5:Nat)(l:List (ByteArray×ByteArray))(u:Value)(wr:World):Prop where
 own:∃a junk,u=.slice (adr a) l.length (l.length+junk.length)∧yI.Rw wr a l junk∧∀g,a=some g→B≤g∧(g<W5∨w6.heap.size≤g)
 frm:Frm (fun k=>k=B) w wr
 sz:w6.heap.size≤wr.heap.size
 keep:∀k,W5≤k→k<w6.heap.size→wr.heap[k]?=w6.heap[k]?
theorem InR.step{w6:World}{W5:Nat}(h:InR w w6 B W5 l u wr)(bo:IsC w (B+1) cs 108)(hs:w.heap.size=B+2){a:Option Nat}{junk:List (ByteArray×ByteArray)}(h1:yI.Rw wr a l junk)(h2:∀g,a=some g→B≤g∧(g<W5∨w6.heap.size≤g)){a':Option Nat}{junk':List (ByteArray×ByteArray)}(k1:yI.Rw w' a' l' junk')(k2:∀g,a'=some g→a=some g∨wr.heap.size≤g)(k3:Frm (fun k=>a=some k) wr w')(Es:B≤wr.heap.size):InR w w6 B W5 l' (.slice (adr a') l'.length (l'.length+junk'.length)) w':=by
 refine⟨⟨a',junk',rfl,k1,fun g e=>?_⟩,?_,lT h.sz k3.size,fun k q1 q2=>?_⟩
 ·rcases k2 g e with q | q
  ·exact h2 g q
  ·exact⟨by omega,.inr (lT h.sz q)⟩
 ·refine⟨k3.os.trans h.frm.os,k3.tape.trans h.frm.tape,k3.output.trans h.frm.output,lT h.frm.size k3.size,fun k hk hn=>?_⟩
  refine(k3.block k (lL hk h.frm.size) fun q=>?_).trans (h.frm.block k hk hn);have e:k=B+1:=by have:=(h2 k q).1;omega
  rw[e]at q;exact(bo.frm h.frm (by omega)).type_ne (h1.arr _ q) (by decide) rfl
 ·refine(k3.block k (lL q2 h.sz) fun q=>?_).trans (h.keep k q1 q2)
  have:=(h2 k q).2;omega
theorem aKR(h:yI.Sl w u l)(hl:0<l.length):∃g o c,u=.slice (some ⟨g,o,none⟩) l.length c∧g<w.heap.size∧∀(w':World) (i:Nat),(w'.heap[g]?=w.heap[g]?)→i<l.length→w'.cell? ⟨g,o+i*2,none⟩=some (.string (l.getD i (.empty,.empty)).1)∧w'.cell? ⟨g,o+i*2+1,none⟩=some (.string (l.getD i (.empty,.empty)).2):=by
 obtain⟨g,o,c,rfl,hg,hc⟩:=h.at hl;refine⟨g,o,c,rfl,hg,fun w' i he hi=>?_⟩;have hw:∀k,w'.cell? ⟨g,k,none⟩=w.cell? ⟨g,k,none⟩:=fun k=>by simp[World.cell?,he]
 exact⟨(hw _).trans (hc i 0 hi (by decide)),(hw _).trans (hc i 1 hi (by decide))⟩
theorem aAV{nodes:Nat→Option Nd}{k:Int}(af:nodes b=some (k,es)):bJ nodes (h+1) b=es.flatMap fun e=>bJ nodes h (ch e):=by
 show(mH nodes b).flatMap _=_
 rw[dF af]
theorem pL(hI:IC f)(ga:Nat)(ns nj:List NV):
  ∀(h b:Nat) (lo hi:OB) (w:World),Ok f.nodes h b lo hi→iZ w ga ns nj f.nodes→(bJ f.nodes h b).length≤100000→
   Calls Tryz.prog 44 #[.slice (some ⟨ga,0,none⟩) ns.length (ns.length+nj.length),.int .i64 b] w fun r w'=>∃u,r=.returned u∧yI.Own w.heap.size w' u (bJ f.nodes h b)∧Bl w w'
 | 0,b,lo,hi,w,hk,hN,ug=>by
  have CR:=aKY;obtain⟨es,af,qg,hc⟩:=hk;have Q5:bJ f.nodes 0 b=es.map fun e=>(e.1,e.2.1):=by unfold bJ;rw[dF af]
  rw[Q5]at ug ⊢;have RI:=qg.le5;obtain⟨a,cp,dw,we,_,c0,c1,_⟩:=hN.at af;simp only at dw c0 c1;have D5:(b:Int) <(ns.length:Int):=by omega
  have bz:0<es.length→_:=fun h=>dW dw h;obtain⟨B,hB⟩:=eZ (w.heap.size);obtain⟨w1,be⟩:=eZ (w.alloc (.cells #[] 85));have ao:=bAl be;obtain⟨B1,d9⟩:=eZ (w1.heap.size);have c0':w1.cell? ⟨ga,b*2,none⟩=some (.int .i64 1):=(ao.cell (p:=⟨ga,_,none⟩) hN.arr.lt).trans c0;have c1':w1.cell? ⟨ga,b*2+1,none⟩=some (.slice a es.length cp):=(ao.cell (p:=⟨ga,_,none⟩) hN.arr.lt).trans c1;go_enter Tryz.func44,Tryz.ntmps44;obtain⟨w2,bw⟩:=eZ (w1.alloc (.cells #[.int .i64 1,.slice a es.length cp] 108));have ba:=bAl bw;have bo:=iNw bw d9;have io:B1=B+1:=by rw[←d9,←be,←hB];simp
  have rq:w2.heap.size=B+2:=by rw[←bw];simp;omega
  have ff:=ao.trans (ba.mono ao.size);have Do:yI.Own B w2 (.slice (some ⟨B,0,none⟩) 0 0) []:=by
   have:=(Ely.Own.lit (Y:=yI) B w (by omega) B hB.symm)
   rw[show w.alloc (.cells #[] yI.t)=w1 from be]at this;exact this.below ba
  have kf:=aA (aI io rq);have Hw:Hid (IsC w2 (B+1) #[.int .i64 1,.slice a es.length cp] 108):=by show IsC _ _ _ _;rw[←io];exact bo
  clear io rq dw;go_wp2;go_loopw [5,7,8,9] (fun u i _ _ wr=>∃j:Nat,j≤es.length∧i=.int .i64 j∧ItR w2 B ((es.take j).map fun e=>(e.1,e.2.1)) u wr) (fun _ i _ _ _=>es.length -(intOf i).toNat)
  case atStart=>exact⟨0,by omega,rfl,⟨Do,Frm.refl _ _⟩⟩
  case round=>
   obtain⟨j,hj,rfl,hR⟩:=hrel;have qd:IsC wr B1 #[.int .i64 1,.slice a es.length cp] 108:=bo.frm hR.frm (by have:=kf.out;omega);have b0:wr.cell? ⟨B1,0,none⟩=some (.int .i64 1):=qd.c rfl;have b1:wr.cell? ⟨B1,1,none⟩=some (.slice a es.length cp):=qd.c rfl;by_cases ai:j<es.length
   ·obtain⟨g,o,c,he,hg,aa⟩:=bz (by omega)
    cases he
    have Km:g≠B:=by omega
    obtain⟨x0,x1,_⟩:=aa wr j ((hR.frm.block g (lL hg ff.size) Km).trans (ff.block g hg)) ai;have dq:(j:Int) <(es.length:Int):=by omega
    have ah:((es.take j).map fun e:E3=>(e.1,e.2.1)).length<1000000:=by
     rw[List.length_map]at ug ⊢;simp;omega
    have HS:Hid (((es.take (j+1)).map fun e:E3=>(e.1,e.2.1))=((es.take j).map fun e:E3=>(e.1,e.2.1))++[((es.getD j e0).1,(es.getD j e0).2.1)]):=by
     show _=_
     rw[cC es j e0 ai,List.map_append];rfl
    have bd:B≤wr.heap.size:=by have:=hR.frm.size;have:=kf.out;omega
    have ap:=hR.own;have HR:=aA hR;have E6:g<B:=by omega
    have vo:Hid (j+1≤es.length):=ai;have Oy:Hid (∀w' u' l',Below B wr w'→ItR w2 B l' u' w'→w'.cell? ⟨B1,1,none⟩=some (.slice (some ⟨g,o,none⟩) es.length cp)∧w'.cell? ⟨g,o+j*3,none⟩=some (.string (es.getD j e0).1)∧w'.cell? ⟨g,o+j*3+1,none⟩=some (.string (es.getD j e0).2.1)):=fun w' u' l' hb hI=>by
     have QK:IsC w' B1 #[.int .i64 1,.slice (some ⟨g,o,none⟩) es.length cp] 108:=bo.frm hI.frm (by have:=kf.out;omega);exact⟨QK.c rfl,(hb.cell (p:=⟨g,_,none⟩) E6).trans x0,(hb.cell (p:=⟨g,_,none⟩) E6).trans x1⟩
    generalize (es.getD j e0).1=kx at *;generalize (es.getD j e0).2.1=vx at *;generalize (es.take j).map (fun e:E3=>(e.1,e.2.1))=pre at *;clear bz aa hR qd;go_wp2;go_region_held3 (fun W=>W.cell? ⟨B1,1,none⟩=some (.slice (some ⟨g,o,none⟩) es.length cp)∧W.cell? ⟨g,o+j*3,none⟩=some (.string kx)∧W.cell? ⟨g,o+j*3+1,none⟩=some (.string vx)) (first | assumption | go_keep) ((refine yI.stepApp1 (by rfl) _ _ (by rfl) ap (by rfl) (kx,vx) (by rfl) (by rfl) ah bd ?_;intro u' w5 k1 k2 k3;have Pc:=HR.out.app Hw.out kf.out.2 k1 k3;have Im:=Oy.out w5 _ _ k2 Pc));rw[←HS.out]at Pc;clear Im k1 k3;go_wp2;go_roundw
    case rel=>exact⟨j+1,vo.out,by go_num,Pc⟩
    case measure=>have Mk:=vo.out;simp[intOf];omega
   ·obtain rfl:j=es.length:=by omega
    rw[List.take_of_length_le (nR _)]at hR;have HR:Hid (yI.Own w.heap.size wr u5 (es.map fun e:E3=>(e.1,e.2.1))∧Bl w wr):=⟨by rw[hB];exact hR.own,ff.trans (hR.frm.below (by rw[hB];have:=kf.out;omega) fun k e=>by rw[e];omega)⟩;clear bz hR qd;go_wp2;go_ret;rw[←hB];exact⟨_,rfl,HR.out.1,HR.out.2⟩
 | h+1,b,lo,hi,w,hk,hN,ug=>by
  obtain⟨es,af,qg,av,h4,pd⟩:=hk;have RI:=qg.le5;have Q5:bJ f.nodes (h+1) b=es.flatMap fun e=>bJ f.nodes h (ch e):=aAV af;rw[Q5]at ug ⊢;obtain⟨a,cp,dw,we,_,c0,c1,_⟩:=hN.at af;simp only at dw c0 c1;have D5:(b:Int) <(ns.length:Int):=by omega
  have pf:0<es.length:=List.length_pos_iff.2 av;obtain⟨g,o,c,he,hg,aa⟩:=dW dw pf;cases he;obtain⟨B,hB⟩:=eZ (w.heap.size);obtain⟨w1,be⟩:=eZ (w.alloc (.cells #[] 85));have ao:=bAl be;obtain⟨B1,d9⟩:=eZ (w1.heap.size);have c0':w1.cell? ⟨ga,b*2,none⟩=some (.int .i64 2):=(ao.cell (p:=⟨ga,_,none⟩) hN.arr.lt).trans c0;have c1':w1.cell? ⟨ga,b*2+1,none⟩=some (.slice (some ⟨g,o,none⟩) es.length cp):=(ao.cell (p:=⟨ga,_,none⟩) hN.arr.lt).trans c1;obtain⟨w2,bw⟩:=eZ (w1.alloc (.cells #[.int .i64 2,.slice (some ⟨g,o,none⟩) es.length cp] 108));have ba:=bAl bw;have bo:=iNw bw d9;have io:B1=B+1:=by rw[←d9,←be,←hB];simp
  have rq:w2.heap.size=B+2:=by rw[←bw];simp;omega
  have ff:=ao.trans (ba.mono ao.size);have Do:yI.Own B w2 (.slice (some ⟨B,0,none⟩) 0 0) []:=by
   have:=(Ely.Own.lit (Y:=yI) B w (by omega) B hB.symm)
   rw[show w.alloc (.cells #[] yI.t)=w1 from be]at this;exact this.below ba
  have kf:=aA (aI io rq);have Hw:Hid (IsC w2 (B+1) #[.int .i64 2,.slice (some ⟨g,o,none⟩) es.length cp] 108):=by show IsC _ _ _ _;rw[←io];exact bo
  have Km:g≠B:=by omega
  have Qm:ga≠B:=by have:=hN.arr.lt;omega
  have O2:Hid (∀wr,Frm (fun k=>k=B) w2 wr→iZ wr ga ns nj f.nodes):=fun wr hF=>by
   refine(hN.below ff).frm hF (fun g' cs rk=>?_) Qm;intro e;rw[e]at rk;have:IsC w2 B #[] 85:=by
    have h1:=iNw be hB;exact h1.of (ba.block _ h1.lt)
   exact rk.type_ne this (by decide) rfl
  clear io rq dw;go_enter Tryz.func44,Tryz.ntmps44;go_wp2;go_loopw [5,7,8,9] (fun u i _ _ wr=>∃j:Nat,j≤es.length∧i=.int .i64 j∧ItR w2 B ((es.take j).flatMap fun e=>bJ f.nodes h (ch e)) u wr) (fun _ i _ _ _=>es.length -(intOf i).toNat)
  case atStart=>exact⟨0,by omega,rfl,⟨Do,Frm.refl _ _⟩⟩
  case round=>
   obtain⟨j,hj,rfl,hR⟩:=hrel;have qd:IsC wr B1 #[.int .i64 2,.slice (some ⟨g,o,none⟩) es.length cp] 108:=bo.frm hR.frm (by have:=kf.out;omega);have b0:wr.cell? ⟨B1,0,none⟩=some (.int .i64 2):=qd.c rfl;have b1:wr.cell? ⟨B1,1,none⟩=some (.slice (some ⟨g,o,none⟩) es.length cp):=qd.c rfl;by_cases ai:j<es.length
   ·obtain⟨_,_,x2⟩:=aa wr j ((hR.frm.block g (lL hg ff.size) Km).trans (ff.block g hg)) ai
    have dq:(j:Int) <(es.length:Int):=by omega
    have ol:=hI.child_pos af ai;have jh:(es.getD j e0).2.2=(kd es j:Int):=by unfold kd ch;omega
    rw[jh]at x2;have iy:=O2.out wr hR.frm;have uq:es.flatMap (fun e=>bJ f.nodes h (ch e))=(es.take j).flatMap (fun e=>bJ f.nodes h (ch e))++(bJ f.nodes h (kd es j)++(es.drop (j+1)).flatMap (fun e=>bJ f.nodes h (ch e))):=mI es _ ai;have d8:=congrArg List.length uq;rw[lP,lP]at d8;have Cb:=aA (pL hI ga ns nj h (kd es j) _ _ wr (pd j ai).2 iy (by omega));have HS:Hid ((es.take (j+1)).flatMap (fun e=>bJ f.nodes h (ch e))=(es.take j).flatMap (fun e=>bJ f.nodes h (ch e))++bJ f.nodes h (kd es j)):=by
     show _=_
     rw[cC es j e0 ai,List.flatMap_append];simp;rfl
    have ah:((es.take j).flatMap fun e=>bJ f.nodes h (ch e)).length+(bJ f.nodes h (kd es j)).length≤100000:=by omega
    obtain⟨w5,sj⟩:∃w5,w5=wr:=⟨_,rfl⟩;have AY:B≤wr.heap.size:=by have:=hR.frm.size;have:=kf.out;omega
    generalize bJ f.nodes h (kd es j)=bl at *;generalize (es.take j).flatMap (fun e=>bJ f.nodes h (ch e))=pre at *;have vo:Hid (j+1≤es.length):=ai;have Xv:=aA sj;clear aa uq d8 sj qd jh ol pd;go_wp2_with fail;refine Cb.out.mono ?_;rintro r w6 ⟨u2,rfl,CY,kj⟩;obtain⟨ua,uc,rfl⟩:=CY.sl.len;have Lu:InR w2 w6 B wr.heap.size pre u5 w6:=by
     obtain⟨ag,junk,q1,q2,q3⟩:=hR.own;exact⟨⟨ag,junk,q1,q2.frm (Frm.of_below (S:=fun _=>False) kj) fun _ _=>id,fun g' e=>⟨q3 g' e,.inl (q2.arr g' e).lt⟩⟩,hR.frm.trans (Frm.of_below kj),nR _,fun _ _ _=>rfl⟩
    have Uw:=aA CY;have KM:wr.heap.size≤w6.heap.size:=kj.size;obtain⟨W5,vb⟩:=eZ (wr.heap.size);rw[vb]at Lu KM;have LZ:Hid (yI.Own W5 w6 (.slice ua bl.length uc) bl):=by show yI.Own _ _ _ _;rw[←vb];exact CY
    clear CY hR vb iy Uw;go_wp2;go_loopw [5,9] (fun u i wx=>∃m:Nat,m≤bl.length∧i=.int .i64 m∧InR w2 w6 B W5 (pre++bl.take m) u wx) (fun _ i _=>bl.length -(intOf i).toNat)
    case atStart=>exact⟨0,by omega,rfl,by simpa using Lu⟩
    case round=>
     obtain⟨m,hm,rfl,hR⟩:=hrel;by_cases hlt2:m<bl.length
     ·obtain⟨ag,junk,rfl,q1,q2⟩:=id hR.own
      obtain⟨g3,o3,c3,Fv,Aq,gz⟩:=aKR LZ.out.sl (by omega);cases Fv;have E5:W5≤g3:=by
       obtain⟨a3,j3,e3,_,e4⟩:=LZ.out;cases a3 with
       | none=>simp[adr]at e3
       | some g4=>
        simp only[adr,Option.map_some,Value.slice.injEq,sJ,Addr.mk.injEq]at e3;have:=e4 g4 rfl;omega
      obtain⟨y0,y1⟩:=gz wr m (hR.keep g3 E5 Aq) hlt2;have Tt:(m:Int) <(bl.length:Int):=by omega
      have qf:(pre++bl.take m).length<1000000:=by simp;omega
      have HT:Hid (pre++bl.take (m+1)=pre++bl.take m++[((bl.getD m (.empty,.empty)).1,(bl.getD m (.empty,.empty)).2)]):=by
       show _=_
       rw[cC bl m (ByteArray.empty,ByteArray.empty) hlt2,List.append_assoc]
      have Es:B≤wr.heap.size:=lT (by have:=kf.out;omega) hR.frm.size;have HR:=aA hR;generalize (bl.getD m (.empty,.empty)).1=kx at *;generalize (bl.getD m (.empty,.empty)).2=vx at *;have qn:Hid (∀a' junk' w',yI.Rw w' a' (pre++bl.take m++[(kx,vx)]) junk'→(∀g,a'=some g→ag=some g∨wr.heap.size≤g)→Frm (fun k=>ag=some k) wr w'→InR w2 w6 B W5 (pre++bl.take (m+1)) (.slice (adr a') (pre++bl.take m++[(kx,vx)]).length ((pre++bl.take m++[(kx,vx)]).length+junk'.length)) w'):=fun a' junk' w' k1 k2 k3=>by
       rw[HT.out];exact HR.out.step Hw.out kf.out.2 q1 q2 k1 k2 k3 Es
      generalize pre++bl.take m=pm at *;have Cc:Hid (m+1≤bl.length):=hlt2;clear gz hR;go_wp2_with (first | (at_builtin;refine yI.wpApp1F rfl _ _ rfl q1 rfl (kx,vx) rfl rfl qf ?_;intro a' junk' w7 k1 k2 k3;have Ls:=qn.out a' junk' w7 k1 k2 k3;clear qn) | go_in);go_roundw
      case rel=>
       have e9:(pm++[(kx,vx)]).length=pm.length+1:=by simp
       rw[e9]at Ls;exact⟨m+1,Cc.out,by go_num,Ls⟩
      case measure=>have Mk:=Cc.out;simp[intOf];omega
     ·obtain rfl:m=bl.length:=by omega
      rw[List.take_of_length_le (nR _),←HS.out]at hR;have HI:Hid (ItR w2 B ((es.take (j+1)).flatMap fun e=>bJ f.nodes h (ch e)) u5 wr):=by
       obtain⟨ag,junk,q0,q1,q2⟩:=hR.own;exact⟨⟨ag,junk,q0,q1,fun g' e=>(q2 g' e).1⟩,hR.frm⟩
      clear hR;go_wp2;go_roundw
      case rel=>exact⟨j+1,vo.out,by go_num,HI.out⟩
      case measure=>have Mk:=vo.out;simp[intOf];omega
   ·obtain rfl:j=es.length:=by omega
    rw[List.take_of_length_le (nR _)]at hR;have HR:Hid (yI.Own w.heap.size wr u5 (es.flatMap fun e=>bJ f.nodes h (ch e))∧Bl w wr):=⟨by rw[hB];exact hR.own,ff.trans (hR.frm.below (by rw[hB];have:=kf.out;omega) fun k e=>by rw[e];omega)⟩;clear hR qd;go_wp2;go_ret;rw[←hB];exact⟨_,rfl,HR.out.1,HR.out.2⟩
def uD(o:OB):Value:=match o with
 | none=>.tuple #[.string .empty,.bool false]
 | some v=>.tuple #[.string v,.bool true]
theorem aHF{j:Nat}(hj:j<l.length)(h:∀x,x<j→(l.getD x (.empty,.empty)).1≠key)(he:(l.getD j (.empty,.empty)).1=key):eV l key=some (l.getD j (.empty,.empty)).2:=by
 induction l generalizing j with
 | nil=>simp at hj
 | cons a l ih=>
  unfold eV;rw[List.find?_cons];cases j with
  | zero=>
   have:(a.1.toList == key.toList)=true:=by rw[show a.1=key from he];exact beq_self_eq_true _
   rw[this];rfl
  | succ j=>
   have:(a.1.toList == key.toList)=false:=by
    rw[beq_eq_false_iff_ne];intro e;exact h 0 (by omega) (gR e)
   rw[this];exact ih (j:=j) (by simpa using hj) (fun x hx=>h (x+1) (by omega)) he
theorem aHG(h:∀x,x<l.length→(l.getD x (.empty,.empty)).1≠key):eV l key=none:=by
 unfold eV;have:l.find? (fun p=>p.1.toList == key.toList)=none:=by
  rw[List.find?_eq_none];intro p hp;obtain⟨j,hj,rfl⟩:=List.getElem_of_mem hp;have:=h j hj;rw[gD,gE hj]at this;intro e;exact this (gR (by simpa using e))
 rw[this];rfl
theorem oV(hI:IC f)(ht:t<f.roots.length)(hk:Ok f.nodes H (aB f t) none none)(key:ByteArray)(w:World)(S:Nat)(A:SA)(hS:Sp w S A f):
  Calls Tryz.prog 68 #[.pointer (some ⟨S,0,none⟩),.int .i64 t,.string key] w fun r w'=>r=.returned (uD (Fo.find f.nodes H (aB f t) key))∧Bl w w':=by
 rw[rN hk];have ug:=vC hI hk;obtain⟨_,s1,s2,_⟩:=hS.cells;obtain⟨_,r1⟩:=hS.v.root ht;have h0:0≤(f.roots.getD t (0,0)).2:=(hI.rb _ (aO ht)).1;have fk:(f.roots.getD t (0,0)).2=(aB f t:Int):=by unfold aB;omega
 rw[fk]at r1;have Rv:(t:Int) <(f.roots.length:Int):=by omega
 have UZ:=aA ((pL hI A.ga A.ns A.nj H (aB f t) none none w.drew hk hS.drew.v.nds (by omega)).mono (R':=fun r w1=>∃u,r=.returned u∧yI.Sl w1 u (bJ f.nodes H (aB f t))∧Bl w w1) fun r w1 hw=>by
  obtain⟨u,h1,h2,h3⟩:=hw;exact⟨u,h1,h2.sl,(bQ _ w).drew.trans h3⟩)
 generalize bJ f.nodes H (aB f t)=l at *;have HS:=aA hS;have LS:Hid (∀w1,Bl w w1→w1.cell? ⟨S,1,none⟩=some (.slice (some ⟨A.ga,0,none⟩) A.ns.length (A.ns.length+A.nj.length))∧w1.cell? ⟨S,2,none⟩=some (.slice (some ⟨A.gr,0,none⟩) f.roots.length (f.roots.length+A.rj.length))∧w1.cell? ⟨A.gr,t*2+1,none⟩=some (.int .i64 (aB f t))):=fun w1 hb=>⟨(hS.below hb).cells.2.1,(hS.below hb).cells.2.2.1,by rw[((hS.below hb).v.root ht).2,fk]⟩;clear fk h0;go_enter Tryz.func68,Tryz.ntmps68;go_wp2;go_region_held3 (fun W=>W.cell? ⟨S,1,none⟩=some (.slice (some ⟨A.ga,0,none⟩) A.ns.length (A.ns.length+A.nj.length))∧W.cell? ⟨S,2,none⟩=some (.slice (some ⟨A.gr,0,none⟩) f.roots.length (f.roots.length+A.rj.length))∧W.cell? ⟨A.gr,t*2+1,none⟩=some (.int .i64 (aB f t))) (first | assumption | go_keep) ((go_at_call 44;refine UZ.out.mono ?_;rintro r w1 ⟨u,rfl,dw,ao⟩;have hX:=LS.out w1 ao;obtain⟨ua,uc,rfl⟩:=dw.len));have bz:0<l.length→_:=fun h=>aKR dw h;clear hX;go_wp2;go_loopw [9] (fun i wr=>∃j:Nat,j≤l.length∧i=.int .i64 j∧Is2 (.bool false) (.bool false) wr w1∧Hid (∀x,x<j→(l.getD x (.empty,.empty)).1≠key)) (fun i _=>l.length -(intOf i).toNat)
 case atStart=>exact⟨0,by omega,rfl,⟨rfl,rfl⟩,fun x hx=>by omega⟩
 case round=>
  obtain⟨j,hj,rfl,⟨_,wj⟩,ay⟩:=hrel;subst wj;by_cases ai:j<l.length
  ·obtain⟨g,o,c,he,hg,aa⟩:=bz (by omega)
   cases he
   obtain⟨x0,x1⟩:=aa wr j rfl ai;have dq:(j:Int) <(l.length:Int):=by omega
   by_cases he:(l.getD j (.empty,.empty)).1=key
   ·have HL:Hid (uD (eV l key)=.tuple #[.string (l.getD j (.empty,.empty)).2,.bool true]):=by show uD _=_;rw[aHF ai ay.out he];rfl
    have hq:((l.getD j (.empty,.empty)).1.toList == key.toList)=true:=by rw[he];exact beq_self_eq_true _
    clear bz aa ay he;generalize (l.getD j (.empty,.empty)).1=x at *;generalize (l.getD j (.empty,.empty)).2=y at *;go_wp2;refine bodyPost_ret (v:=.tuple #[.string y,.bool true]) (by simp[results,Tryz.f68,go_sem]) rfl ?_;exact⟨by rw[HL.out],ao⟩
   ·have hq:((l.getD j (.empty,.empty)).1.toList == key.toList)=false:=by rw[beq_eq_false_iff_ne];exact fun e=>he (gR e)
    have HA:Hid (∀x,x<j+1→(l.getD x (.empty,.empty)).1≠key):=fun x hx=>by
     by_cases e:x=j
     ·rw[e];exact he
     ·exact ay.out x (by omega)
    clear bz aa ay he;generalize (l.getD j (.empty,.empty)).1=x at *;go_wp2;go_roundw
    case rel=>exact⟨j+1,by omega,by go_num,⟨rfl,rfl⟩,HA.out⟩
    case measure=>simp[intOf];omega
  ·obtain rfl:j=l.length:=by omega
   have HL:Hid (uD (eV l key)=.tuple #[.string .empty,.bool false]):=by show uD _=_;rw[aHG ay.out];rfl
   clear bz ay;go_wp2;refine bodyPost_ret (v:=.tuple #[.string .empty,.bool false]) (by simp[results,Tryz.f68,go_sem];try rfl) rfl ?_;exact⟨by rw[HL.out],ao⟩
