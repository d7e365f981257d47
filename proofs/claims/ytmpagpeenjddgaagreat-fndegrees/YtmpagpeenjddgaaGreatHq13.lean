import Derived.Test.YtmpagpeenjddgaaGreatHq11
set_option maxHeartbeats 9999999
set_option maxRecDepth 99999
set_option linter.all false
namespace Go.Proofs.YtmpagpeenjddgaaGreat
open Go.RowKit Fo
variable{K:Int}
theorem aFK{l:List E3}(h:0<l.length):l.drop (l.length-1)=[l.getD (l.length-1) e0]:=by
 have a:l.length-1<l.length:=by omega
 rw[List.drop_eq_getElem_cons a,List.drop_of_length_le (by omega),gD,gE a];rfl
theorem aGS(f:fZ)(b:Nat)(d e:Nd):setN (setN f b d) b e=setN f b e:=by
 have:upd (upd f.n b (some d)) b (some e)=upd f.n b (some e):=funext fun x=>by by_cases h:x=b<;>simp[upd,h]
 unfold setN;simp only;rw[this]
theorem zD(w:World)(ρ:Nat->Nat)(P:Nat)(A:Adr)(f:fZ)(J:List aS)(t H:Nat)(Pt:List Nat)(b h:Nat)(lo hi:OB)(es:List E3)(i c:Nat)(kk:Int)(d:List E3)(q G:Nat)(ug:St w ρ P A f J)(Z:Wk f t H)(hp:aO f t H Pt b (h+1) lo hi)(af:f.n b=some (2,es))(GC:0<i)(hi':i<es.length)(hc:c=kd es i)(hd:f.n c=some (kk,d))(cc:cu f c=1)(ap:d.length=2)(hφ:A.φ b=some q)(DL:A.φ c=some G)(hz:Sz K f)(vf:1<=K)(hK:K<=700000)(lq:J.length<=600000)(sm:Tch b J)(Fb:Tch c J):
  Calls Tryz.prog 126 #[pT P 0,pT q 0,iV i,pT G 0] w (FlP w ρ P A f J b c (fillLast f b i c) K):=by
 have lj:=rE;have K8:=aDR;obtain⟨r,ue⟩:=exH (i-1);have gh:=hz.ai b _ af;simp only at gh;have Cd:r<es.length:=by rw[ue.out];omega
 obtain⟨s,Hs⟩:=exH (kd es r);have qi:s∈kids (2,es):=by rw[Hs.out];exact aR Cd
 have eS:c∈kids (2,es):=by rw[hc];exact aR hi'
 obtain⟨⟨E,a⟩,ke⟩:=Z.ic.af af qi;obtain⟨es0,q1,e2,e3,e4,e5⟩:=(hp.ok Z.ok).1;rw[af]at q1;cases q1;have mz:E=kk:=by
  have CM:=(dO (hc▸hd)).1 (e5 i (by omega)).2;have Bh:=(dO (Hs.out▸ke)).1 (e5 r Cd).2;cases h with
  | zero=>have a1:=CM.1;have a2:=Bh.1;simp only at a1 a2;omega
  | succ h=>have a1:=CM.1;have a2:=Bh.1;simp only at a1 a2;omega
 subst mz;have ju:2<=a.length:=by have:=(e5 r Cd).1;unfold sz at this;rw[<-Hs.out,ke]at this;exact this
 have ry:=hz.ai s _ ke;simp only at ry;have fw:c≠s:=fun e=>by
  rw[hc,Hs.out]at e;have:=eA (Z.ic.only (hc▸cc) af (hc▸eS)).2.1 (by omega) Cd e.symm;have:=ue.out;omega
 have CU:b≠s:=fun e=>Z.ic.ag af (e▸qi);have mo:b≠c:=fun e=>Z.ic.ag af (e▸eS);have d5:b<f.c.length:=hz.lt b _ af;have Kk:c<f.c.length:=hz.lt c _ hd;have ef:s<f.c.length:=hz.lt s _ ke;have CX:(es.getD r e0).2.2=(s:Int):=by
  have h1:=Z.ic.ar af Cd;rw[Hs.out];unfold kd ch;omega
 obtain⟨q',junk,S,yw,yu,hN⟩:=ug.ah af;rw[hφ]at S;cases S;obtain⟨g,hg⟩:=hN.bf (by simp only;omega);rw[hg]at hN;obtain⟨qs,D,UB,T9,PH,Fv⟩:=ug.ah ke;obtain⟨ja,jp,jj,hR,hJ⟩:=id ug;have m3:=hR.cells.m3;have c1:w.cell? (aD q 1)=some (sL g 0 es.length (es.length+junk.length)):=by rw[hN.box.cell];rfl
 have c2:w.cell? (aD g (r*3+2))=some (iV s):=by
  have:=(bM (hN.arr g rfl).1 (i:=r) (by simp;omega)).2.2
  rw[gD,List.getElem?_append_left Cd,<-gD]at this;rw[CX]at this;exact this
 have ig:∀n,(Instr.lookup 64 (.map (some A.m)) (iV s) false).run Tryz.prog (w.drewN n)=.ok (pT qs 0) (w.drewN n):=fun n=>by
  have:=(hR.hm.of (w':=w.drewN n) rfl).lookup s (by have:=hz.al;omega)
  rw[UB]at this;simpa only[fB,Option.map_some] using this
 have yt:IntKind.i64.wrap ((i:Int)-1)=(r:Int):=by
  have:=ue.out
  rw[IntWalk.i64_in _ ⟨by omega,by omega⟩];omega
 have GE:((r:Nat):Int) <(es.length:Int):=by omega
 have de:((i:Nat):Int) <(es.length:Int):=by omega
 have HF:Hid (fillLast f b i c=if 2<a.length then
   match shadow f (.ai b r)with
   | none=>none
   | some (k,s)=>some (moveF k b s c (Fo.look k c).1 ((Fo.look k s).2.take ((Fo.look k s).2.length-1)) ((Fo.look k s).2.drop ((Fo.look k s).2.length-1)++(Fo.look k c).2) ((Fo.look k b).2.set i (ky (Fo.look k s).2 ((Fo.look k s).2.length-1),((Fo.look k b).2.getD i e0).2)))
  else some (mergeF f b c s E (a++d) (delE (es.set i (ky es r,(es.getD i e0).2)) r))):=by
  show fillLast f b i c=_
  unfold fillLast;rw[aF af];simp only;rw[<-ue.out,<-Hs.out,aF ke,aF hd];rfl
 have HC:=aA (aI hc ap);have Dz:=aA CX;clear hc ap CX;go_enter Tryz.func126,Tryz.ntmps126;go_wp2;go_quiet (fail);clear ig c2 m3;by_cases my:2<a.length
 ·have BD:decide (2<a.length)=true:=by simpa using my
  have nw:=aA my;clear my c1;go_wp2_with fail;refine(gA qs (E,a) _ D _ (Fv.below (below_drewN _ _))).mono ?_;rintro e Y ⟨rfl,ci⟩;rw[ci];clear ci Y;have CK:dU f (.ai b r):=⟨d5,es,af,Cd⟩;have CJ:gY A (.ai b r) ⟨g,r*3+2,none⟩:=⟨g,hg,rfl⟩;go_wp2_with fail;refine(iM _ ρ P A f J (.ai b r) ⟨g,r*3+2,none⟩ (ug.below (below_drewN _ _)) Z.ic hz vf (by omega) (by omega) CK CJ (fun b' i' e=>by cases e;exact sm)).mono ?_;intro e Y hT;cases ak:shadow f (.ai b r)with
  | none=>
   obtain⟨rfl,ρ4,A4,g4,J4,a1,a2,a3⟩:=hT.no ak;have lp:fillLast f b i c=none:=by rw[HF.out,if_pos nw.out,ak]
   exact⟨rfl,fun _=>⟨rfl,ρ4,A4,g4,J4,a1,(Mv.aa (below_drewN _ _)).trans a2 (fun _ _ e=>e),a3.up (by omega)⟩,fun g bu=>by rw[lp]at bu;cases bu⟩
  | some gc=>
   obtain⟨f4,U⟩:=gc;obtain⟨ρ4,A4,J4,qs4,rfl,tz,cn,CP,jx⟩:=hT.yes f4 U ak;have bm:Dn 12 (fun x=>x=U\/x=bN f (.ai b r)) w ρ P A f J Y ρ4 A4 f4 J4:=⟨cn.st,(Mv.aa (below_drewN _ _)).trans cn.mv (fun _ _ e=>e),cn.js,cn.ad⟩;clear cn hT;obtain⟨w2,p2,p3,⟨l,m1,m2,m3,m4⟩,m5,m6,m7,m8,m9⟩:=Z.aj hp af Cd ak;obtain⟨s1,s2,s3⟩:=Z.bj hp af Cd ak;rw[<-Hs.out]at m5 s1 s2;obtain⟨x1,x2,x3⟩:=s2 _ eS fw;have IY:f4.n c=some (E,d):=by rw[x1];exact hd
   have zo:f4.n U=some (E,a):=by rw[m5];exact ke
   have Lj:U∈kids (2,l):=by rw[<-m4];exact aR (by rw[m2];exact Cd)
   have E0:b≠U:=fun e=>w2.ic.ag m1 (e▸Lj);have me:kd l i=c:=by rw[HC.out.1];unfold kd;rw[(s3 l m1 i).2 (by have:=ue.out;omega)]
   have zh:c≠U:=fun e=>by
    rw[<-me,<-m4]at e;have Ki:kd l i∈kids (2,l):=aR (by rw[m2];omega);have:=eA (w2.ic.only (by rw[me,x2];exact cc) m1 Ki).2.1 (by rw[m2];omega) (by rw[m2];exact Cd) e.symm;have:=ue.out;omega
   have Bm:bN f (.ai b r)=s:=by simp only[bN,aF af];exact Hs.out.symm
   have Nj:¬(b=U\/b=bN f (.ai b r)):=fun e=>by rw[Bm]at e;rcases e with e | e;exact E0 e;exact CU e
   have R3:¬(c=U\/c=bN f (.ai b r)):=fun e=>by rw[Bm]at e;rcases e with e | e;exact zh e;exact fw e
   have Ct:A4.φ b=some q:=by rw[bm.ad.φ b Nj];exact hφ
   have Ls:A4.α b=some g:=by rw[bm.ad.α b Nj];exact hg
   have Cu:A4.φ c=some G:=by rw[bm.ad.φ c R3];exact DL
   have sq:Hid (fillLast f b i c=some (moveF f4 b U c E (a.take (a.length-1)) (a.drop (a.length-1)++d) (l.set i (ky a (a.length-1),(l.getD i e0).2)))):=by
    show fillLast f b i c=_
    rw[HF.out,if_pos nw.out,ak];simp only[aF IY,aF zo,aF m1]
   clear HF;obtain⟨q4',T,S,PI,I9,od⟩:=bm.st.ah zo;rw[tz]at S;cases S;obtain⟨gs,zy⟩:=od.bf (by simp only;omega);rw[zy]at od;obtain⟨l1,Lz⟩:=exH (a.length-1);have ed:l1<a.length:=by rw[Lz.out];omega
   have hwl:IntKind.i64.wrap ((a.length:Int)-1)=(l1:Int):=by
    have:=Lz.out
    rw[IntWalk.i64_in _ ⟨by omega,by omega⟩];omega
   have cs1:Y.cell? (aD qs4 1)=some (sL gs 0 a.length (a.length+T.length)):=by rw[od.box.cell];rfl
   have Zw:a.length+T.length<=maxLen:=od.small;have HM:=aA (aI m2 (aI m5 (aI m6 m7)));clear m2 m5 m6 m7 BD;go_wp2_with fail;refine(gT qs4 gs E a T l1 Y od ry ed).mono ?_;rintro e w5 ⟨rfl,⟨junks5,qp⟩,ez⟩;have MF:delE a l1=a.take (a.length-1):=by
    unfold delE;rw[Lz.out,show a.length-1+1=a.length by omega];simp
   have Ga:Frm (fun x=>x=qs4\/A4.α U=some x) Y w5:=ez.wide fun x _ e=>by rcases e with e | e;exact .inl e;right;rw[zy,e]
   rw[MF]at qp;obtain⟨cy,o6⟩:=bm.st.aw zo tz Ga (by rw[zy];exact qp);obtain⟨F,O,L,H3⟩:∃F O L,Hid (a.getD l1 e0=(F,O,L)):=⟨_,_,_,rfl⟩;rw[show aBG (a.getD l1 e0)=.agg #[.string F,.string O,iV L] by rw[H3.out];rfl];clear qp ez Ga cs1;go_wp2;obtain⟨M,Qp⟩:=exH (w5.heap.size);obtain⟨Wm,Q3⟩:=exH (w5.alloc (.cells #[.string F,.string O,iV L] 130));rw[<-Q3.out,<-Qp.out];have Pw:IsC Wm M #[.string F,.string O,iV L] 130:=by rw[Q3.out,Qp.out];exact IsC.new _ _ _
   have M5:Bl w5 Wm:=by rw[Q3.out];exact(bQ w5.heap.size w5).alloc (nR _) _
   have T5:ρ4 M=0:=Nat.eq_zero_of_not_pos fun q=>by
    obtain⟨_,_,_,C4,_⟩:=id cy;have:=C4.own M (by omega);rw[Qp.out]at this;omega
   have Ru:=cy.below M5;have Gy:(setN f4 U (E,a.take (a.length-1))).n c=some (E,d):=(bG _ _ zh).trans IY;obtain⟨qc',m,S,Dw,yv,iz⟩:=Ru.ah Gy;rw[Cu]at S;cases S;obtain⟨Q,y8⟩:∃Q,Q=A4.α c:=⟨_,rfl⟩;rw[<-y8]at iz;have Fh:=aA y8;clear y8;have X7:M≠G:=fun e=>by rw[e,Dw]at T5;unfold cK at T5;omega
   have X6:∀x,Q=some x->M≠x:=fun x e e'=>by
    have:=yv x (by rw[<-Fh.out];exact e)
    rw[<-e',T5]at this;unfold cI at this;omega
   have Vv:∀W:World,IsC W M #[.string F,.string O,iV L] 130->W.cell? (aD M 0)=some (.string F)/\W.cell? (aD M 1)=some (.string O)/\W.cell? (aD M 2)=some (iV L):=fun W Z=>⟨Z.c rfl,Z.c rfl,Z.c rfl⟩;have Dy:=aA Vv;clear Vv;have R:Wm.drew.cell? (aD G 1)=some (.slice (adr Q) d.length (d.length+m.length))/\Wm.drew.cell? (aD M 0)=some (.string F)/\Wm.drew.cell? (aD M 1)=some (.string O)/\Wm.drew.cell? (aD M 2)=some (iV L):=⟨by show Wm.cell? _=_;rw[iz.box.cell];rfl,Dy.out Wm Pw⟩;refine bB (fun W=>W.cell? (aD G 1)=some (.slice (adr Q) d.length (d.length+m.length))/\W.cell? (aD M 0)=some (.string F)/\W.cell? (aD M 1)=some (.string O)/\W.cell? (aD M 2)=some (iV L)) 10 (by kernel_rfl) ?_;refine tJ 0 42 (pT G 0) rfl R ?_;refine tJ 1 43 (pT G 0) rfl R ?_;refine tJ 2 44 (pT G 0) rfl R ?_;refine tJ 3 45 (pT G 1) rfl R ?_;refine tJ 4 46 (.slice (adr Q) d.length (d.length+m.length)) rfl R ?_;refine tJ 5 47 (.agg #[.string F,.string O,iV L]) rfl R ?_;simp only[Act.put,sB,sZ,sS];refine oE 6 rfl fun K2 z=>?_;go_simp;obtain⟨G6,Aj⟩:=exH (Wm.heap.size);obtain⟨W6,Am⟩:=exH ((Wm.alloc (.cells #[.string F,.string O,iV L] 130)).drew);rw[<-Am.out,<-Aj.out];have AP:IsC W6 G6 (cC [(F,O,L)]) 130:=by rw[Am.out,Aj.out];exact(IsC.new Wm _ _).drew
   have sc:Bl Wm W6:=by rw[Am.out];exact((bQ Wm.heap.size Wm).alloc (nR _) _).drew
   have qo:=iz.below sc;have Js:IsC W6 M #[.string F,.string O,iV L] 130:=Pw.of (sc.block M Pw.lt);have NG:∀x,Q=some x->x≠G6:=fun x e=>by rw[Aj.out];exact Nat.ne_of_lt (iz.arr x e).1.lt
   have BS:W6.cell? (aD G 1)=some (.slice (adr Q) d.length (d.length+m.length))/\W6.cell? (aD M 0)=some (.string F)/\W6.cell? (aD M 1)=some (.string O)/\W6.cell? (aD M 2)=some (iV L):=⟨by rw[qo.box.cell];rfl,Dy.out W6 Js⟩;refine z _ _ (fun _=>BS) ?_;clear z K2 R;have lr:=Ru.below sc;refine oE 7 rfl fun K2 z=>?_;go_simp;refine(jX Q d m [(F,O,L)] (some ⟨G6,0,none⟩) 1 0 W6 (fun x e=>(qo.arr x e).1) qo.nil (.inr ⟨G6,0,1,[(F,O,L)],rfl,AP,by simp,by simp⟩) (fun gv o n c' e e'=>by cases e;exact NG _ e' rfl) (Nat.zero_le _) (by simp) (by have:=HC.out.2;simp;omega) qo.small).mono ?_;rintro e w7 ⟨u,rfl,ep⟩;obtain⟨ua,un,uc,rfl⟩:∃ua un uc,u=.slice ua un uc:=by obtain⟨⟨I,j',e,_⟩,_⟩:=ep;exact⟨_,_,_,e⟩
   rw[show d.take 0++[(F,O,L)]++d.drop 0=[(F,O,L)]++d by simp]at ep;have Jt:IsC w7 M #[.string F,.string O,iV L] 130:=Js.ae ep.ae (fun e=>X6 M e rfl);have pf:w7.cell? (aD G 1)=some (.slice (adr Q) d.length (d.length+m.length))/\w7.cell? (aD M 0)=some (.string F)/\w7.cell? (aD M 1)=some (.string O)/\w7.cell? (aD M 2)=some (iV L):=⟨(dF (ep.ae.block G qo.box.lt (fun e=>(qo.arr G e).2 rfl)) 1).trans BS.1,Dy.out w7 Jt⟩;obtain⟨I,-,o9,Bg,-,ye⟩:=lr.ins (w1:=w7) (u:=.slice ua un uc) Gy Cu (by rw[<-Fh.out];exact ep);have NN:IsC (w7.setCell (aD G 1) (.slice ua un uc)) M #[.string F,.string O,iV L] 130:=Jt.set_ne _ X7;refine z _ _ (fun _=>pf) ?_;clear z K2 BS;refine oE 8 rfl fun K2 z=>?_;go_simp;refine z _ _ (fun _=>pf) ?_;clear z K2;refine oE 9 rfl fun K2 z=>?_;go_simp;refine z _ _ (fun _=>pf) ?_;clear z K2;obtain⟨Cn,-⟩:=pf;refine oE 10 rfl fun K2 z=>?_;go_simp;refine z _ _ (fun q=>absurd rfl q) ?_;clear z K2 Cn ye;refine aT (by kernel_rfl) ?_ _;have vy:Mv (fun _=>False) w ρ (w7.setCell (aD G 1) (.slice ua un uc)) (jI ρ4 I c):=(((bm.mv.trans o6 (fun _ _ e=>e)).trans (Mv.aa M5) (fun _ _ e=>e)).trans (Mv.aa sc) (fun _ _ e=>e)).trans Bg (fun _ _ e=>e);generalize w7.setCell (aD G 1) (.slice ua un uc)=V at *;obtain⟨f8,ID⟩:=exH (setN (setN f4 U (E,a.take (a.length-1))) c (E,[(F,O,L)]++d));rw[<-ID.out]at o9;have sf:f8.n b=some (2,l):=by rw[ID.out,bG _ _ mo,bG _ _ E0];exact m1
   obtain⟨q',C,S,-,-,iy⟩:=o9.ah sf;rw[show(dR A4 c I).φ b=some q from Ct]at S;cases S;have nh:(dR A4 c I).α b=some g:=(aC _ _ mo).trans Ls;rw[nh]at iy;have AW:i<l.length:=by rw[HM.out.1];exact hi'
   have ZD:((i:Nat):Int) <(l.length:Int):=by omega
   obtain⟨vk,tk⟩:∃v,V.cell? (aD g (i*3))=some v:=⟨_,(bM (iy.arr g rfl).1 (i:=i) (by simp;omega)).1⟩;have tf:=(iy.arr g rfl).1.frozen (i*3);have pz:=iy.cp (i:=i) (j:=0) (v:=.string F) (e':=(F,(l.getD i e0).2)) AW (by omega) (by simp[aK]);rw[Nat.add_zero]at pz;obtain⟨rh,C2⟩:=o9.aw (w':=V.setCell (aD g (i*3)) (.string F)) sf Ct (Frm.set V (p:=aD g (i*3)) (.inr nh) _) (by rw[nh];exact pz);have bj:setN f8 b (2,l.set i (F,(l.getD i e0).2))=moveF f4 b U c E (a.take (a.length-1)) (a.drop (a.length-1)++d) (l.set i (ky a (a.length-1),(l.getD i e0).2)):=by
    rw[ID.out,aFK (by omega)];unfold ky;rw[<-Lz.out,H3.out];rfl
   rw[bj]at rh;have D5:JS 12 f J (moveF f4 b U c E (a.take (a.length-1)) (a.drop (a.length-1)++d) (l.set i (ky a (a.length-1),(l.getD i e0).2))) J4:=by
    refine(((bm.js.trans (JS.setN _ CP)).trans (JS.setN _ (bm.js.b5 c Fb))).trans (JS.setN _ (bm.js.b5 b sm))).up (by omega)
   have Kj:c<f4.c.length:=jx.lt c _ IY;have Dq:U<f4.c.length:=jx.lt U _ zo;have KW:b<f4.c.length:=jx.lt b _ m1;have Bu:Sz (K+10) (moveF f4 b U c E (a.take (a.length-1)) (a.drop (a.length-1)++d) (l.set i (ky a (a.length-1),(l.getD i e0).2))):=
    ((jx.setN Dq (by simp;omega)).setN Kj (by have:=HC.out.2;simp;omega)).setN KW (by have:=HM.out.1;simp;omega)
   have HR:=aA (show Dn 12 (fun _=>True) w ρ P A f J (V.setCell (aD g (i*3)) (.string F)) (jI ρ4 I c) (dR A4 c I) (moveF f4 b U c E (a.take (a.length-1)) (a.drop (a.length-1)++d) (l.set i (ky a (a.length-1),(l.getD i e0).2))) J4/\Sz (K+10) (moveF f4 b U c E (a.take (a.length-1)) (a.drop (a.length-1)++d) (l.set i (ky a (a.length-1),(l.getD i e0).2)))from⟨⟨rh,vy.trans C2 (fun _ _ e=>e),D5,(bm.ad.trans (AdS.arr A4 c I)).up fun _ _=>trivial⟩,Bu⟩);have N:V.drew.cell? (aD q 1)=some (sL g 0 l.length (l.length+C.length))/\V.drew.cell? (aD M 0)=some (.string F):=⟨by show V.cell? _=_;rw[iy.box.cell];rfl,(Dy.out V NN).1⟩;clear rh C2 D5 Bu bj pz iy o9 vy Bg lr cy o6 ep qo iz AP bm NN Jt Js Pw Ru;go_wp2;refine bB (fun W=>W.cell? (aD q 1)=some (sL g 0 l.length (l.length+C.length))/\W.cell? (aD M 0)=some (.string F)) 9 (by kernel_rfl) ?_;refine tJ 0 52 (pT q 0) rfl N ?_;refine tJ 1 53 (pT q 0) rfl N ?_;refine tJ 2 54 (pT q 1) rfl N ?_;refine tJ 3 55 (sL g 0 l.length (l.length+C.length)) rfl N ?_;refine tJ 4 56 (iV i) rfl N ?_;refine tJ 5 57 (pT M 0) rfl N ?_;refine tJ 6 58 (.string F) rfl N ?_;simp only[Act.put,sB,sZ,sS];refine oE 7 rfl fun K2 z=>?_;go_simp;refine z _ _ (fun _=>N) ?_;clear z K2;refine oE 8 rfl fun K2 z=>?_;go_simp;refine z _ _ (fun _=>N) ?_;clear z K2;refine oE 9 rfl fun K2 z=>?_;go_simp;refine z _ _ (fun q=>absurd rfl q) ?_;clear z K2;refine aT (by kernel_rfl) ?_ _;go_wp2;first | go_end0 | refine bodyPost_ret (results_none rfl _ _ _) rfl ?_
   obtain⟨CF,Af⟩:=HR.out;refine⟨fun q=>(by rw[sq.out]at q;cases q),fun g' ti=>?_⟩;rw[sq.out]at ti;cases ti;exact⟨rfl,_,_,J4,CF.below (by first | exact bQ _ _ | exact(bQ _ _).drew),Ct.trans hφ.symm,Cu.trans DL.symm,Af⟩
 ·have BD:decide (2<a.length)=false:=by simpa using my
  have nw:=aA my;clear my c1;go_wp2_with fail;refine(gA qs (E,a) _ D _ (Fv.below (below_drewN _ _))).mono ?_;rintro e Y ⟨rfl,ci⟩;have du:Bl w Y:=by rw[ci];exact below_drewN _ _
  clear ci;have av:=ug.below du;have od:=Fv.below du;obtain⟨az,has⟩:∃az,az=A.α s:=⟨_,rfl⟩;rw[<-has]at od;obtain⟨qc',m,S,Dw,yv,wd⟩:=av.ah hd;rw[DL]at S;cases S;obtain⟨Q,y8⟩:∃Q,Q=A.α c:=⟨_,rfl⟩;rw[<-y8]at wd;have Fh:=aA y8;have Ws:=aA has;clear y8 has BD;have R:Y.drew.cell? (aD G 1)=some (.slice (adr Q) d.length (d.length+m.length))/\Y.drew.cell? (aD qs 1)=some (.slice (adr az) a.length (a.length+D.length)):=⟨by show Y.cell? _=_;rw[wd.box.cell];rfl,by show Y.cell? _=_;rw[od.box.cell];rfl⟩;go_wp2;refine bB (fun W=>W.cell? (aD G 1)=some (.slice (adr Q) d.length (d.length+m.length))/\W.cell? (aD qs 1)=some (.slice (adr az) a.length (a.length+D.length))) 12 (by kernel_rfl) ?_;refine tJ 0 61 (pT G 0) rfl R ?_;refine tJ 1 62 (pT G 0) rfl R ?_;refine tJ 2 63 (pT G 0) rfl R ?_;refine tJ 3 64 (pT G 1) rfl R ?_;refine tJ 4 65 (.slice (adr Q) d.length (d.length+m.length)) rfl R ?_;refine tJ 5 66 (pT qs 0) rfl R ?_;refine tJ 6 67 (pT qs 0) rfl R ?_;refine tJ 7 68 (pT qs 1) rfl R ?_;refine tJ 8 69 (.slice (adr az) a.length (a.length+D.length)) rfl R ?_;simp only[Act.put,sB,sZ,sS];have pr:Bl Y Y.drew:=(bQ Y.heap.size Y).drew;have iz:=wd.below pr;have qp:=od.below pr;have cy:=av.below pr;have KP:∀x,Q=some x->x≠qs:=fun x e e'=>by
   have h1:=(iz.arr x e).1;rw[e']at h1;exact IsC.ne h1 qp.box (by decide) rfl
  have ws:aOW (.slice (adr az) a.length (a.length+D.length)) Q:=fun gv o n c' e e'=>by
   have h2:=yv gv (by rw[<-Fh.out];exact e');cases az with
   | none=>simp[adr]at e
   | some x=>
    simp only[adr,Option.map_some,Value.slice.injEq,sJ,Addr.mk.injEq]at e;have h3:=PH x (by rw[<-Ws.out]);rw[e.1.1,h2]at h3;exact(rne fw).2.2.2 h3
  refine oE 9 rfl fun K2 z=>?_;go_simp;refine(jX Q d m a (adr az) (a.length+D.length) 0 Y.drew (fun x e=>(iz.arr x e).1) iz.nil qp.dp ws (Nat.zero_le _) (by omega) (by have:=HC.out.2;have:=nw.out;omega) iz.small).mono ?_;rintro e W7 ⟨u,rfl,ep⟩;obtain⟨ua,un,uc,rfl⟩:∃ua un uc,u=.slice ua un uc:=by obtain⟨⟨I,j',e,_⟩,_⟩:=ep;exact⟨_,_,_,e⟩
  rw[show d.take 0++a++d.drop 0=a++d by simp]at ep;have pf:W7.cell? (aD G 1)=some (.slice (adr Q) d.length (d.length+m.length))/\W7.cell? (aD qs 1)=some (.slice (adr az) a.length (a.length+D.length)):=⟨(dF (ep.ae.block G iz.box.lt (fun e=>(iz.arr G e).2 rfl)) 1).trans R.1,(dF (ep.ae.block qs qp.box.lt (fun e=>KP qs e rfl)) 1).trans R.2⟩;obtain⟨I,-,o9,Bg,-,ye⟩:=cy.ins (w1:=W7) (u:=.slice ua un uc) hd DL (by rw[<-Fh.out];exact ep);refine z _ _ (fun _=>pf) ?_;clear z K2 R;refine oE 10 rfl fun K2 z=>?_;go_simp;refine z _ _ (fun _=>pf) ?_;clear z K2;refine oE 11 rfl fun K2 z=>?_;go_simp;refine z _ _ (fun _=>pf) ?_;clear z K2;obtain⟨Cn,-⟩:=pf;refine oE 12 rfl fun K2 z=>?_;go_simp;refine z _ _ (fun q=>absurd rfl q) ?_;clear z K2 Cn ye;refine aT (by kernel_rfl) ?_ _;have vy:Mv (fun _=>False) w ρ (W7.setCell (aD G 1) (.slice ua un uc)) (jI ρ I c):=((Mv.aa du).trans (Mv.aa pr) (fun _ _ e=>e)).trans Bg (fun _ _ e=>e);generalize W7.setCell (aD G 1) (.slice ua un uc)=V at *;have sf:(setN f c (E,a++d)).n b=some (2,es):=(bG _ _ mo).trans af;obtain⟨q',C,S,-,-,iy⟩:=o9.ah sf;rw[show(dR A c I).φ b=some q from hφ]at S;cases S;have nh:(dR A c I).α b=some g:=(aC _ _ mo).trans hg;rw[nh]at iy;obtain⟨y,HY⟩:=exH (ky es r);have ty:V.cell? (aD g (r*3))=some (.string y):=by
   have:=(bM (iy.arr g rfl).1 (i:=r) (by simp;omega)).1
   rw[gD,List.getElem?_append_left Cd,<-gD]at this;rw[HY.out];exact this
  obtain⟨vk,tk⟩:∃v,V.cell? (aD g (i*3))=some v:=⟨_,(bM (iy.arr g rfl).1 (i:=i) (by simp;omega)).1⟩;have tf:=(iy.arr g rfl).1.frozen (i*3);have pz:=iy.cp (i:=i) (j:=0) (v:=.string y) (e':=(y,(es.getD i e0).2)) hi' (by omega) (by simp[aK]);rw[Nat.add_zero]at pz;obtain⟨rh,C2⟩:=o9.aw (w':=V.setCell (aD g (i*3)) (.string y)) sf hφ (Frm.set V (p:=aD g (i*3)) (.inr nh) _) (by rw[nh];exact pz);have N:V.drew.cell? (aD q 1)=some (sL g 0 es.length (es.length+C.length))/\V.drew.cell? (aD g (r*3))=some (.string y):=⟨by show V.cell? _=_;rw[iy.box.cell];rfl,ty⟩;have NM:=vy.trans C2 (fun _ _ e=>e);clear pz iy ep iz qp ty vy C2 o9;go_wp2;refine bB (fun W=>W.cell? (aD q 1)=some (sL g 0 es.length (es.length+C.length))/\W.cell? (aD g (r*3))=some (.string y)) 11 (by kernel_rfl) ?_;refine tJ 0 73 (pT q 0) rfl N ?_;refine tJ 1 74 (pT q 0) rfl N ?_;refine tJ 2 75 (pT q 1) rfl N ?_;refine tJ 3 76 (sL g 0 es.length (es.length+C.length)) rfl N ?_;refine tJ 4 77 (iV i) rfl N ?_;refine tJ 5 78 (pT g (r*3)) rfl N ?_;refine tJ 6 79 (pT g (r*3)) rfl N ?_;refine tJ 7 80 (pT g (r*3)) rfl N ?_;refine tJ 8 81 (.string y) rfl N ?_;simp only[Act.put,sB,sZ,sS];refine oE 9 rfl fun K2 z=>?_;go_simp;refine z _ _ (fun _=>N) ?_;clear z K2;refine oE 10 rfl fun K2 z=>?_;go_simp;refine z _ _ (fun _=>N) ?_;clear z K2;refine oE 11 rfl fun K2 z=>?_;go_simp;refine z _ _ (fun q=>absurd rfl q) ?_;clear z K2;refine aT (by kernel_rfl) ?_ _;have Gp:=rh.below (bQ _ _).drew;have IJ:=NM.trans (Mv.aa (X:=fun _=>False) (bQ _ _).drew) (fun _ _ e=>e);clear rh NM N tk tf;generalize (V.setCell (aD g (i*3)) (.string y)).drew=W9 at *;obtain⟨B,Pg⟩:=exH (es.set i (y,(es.getD i e0).2));rw[<-Pg.out]at Gp;have P8:B.length=es.length:=by rw[Pg.out];simp
  have fi:(setN (setN f c (E,a++d)) b (2,B)).n b=some (2,B):=tE _ _ _;obtain⟨q',junkb9,S,-,-,DW⟩:=Gp.ah fi;rw[show(dR A c I).φ b=some q from hφ]at S;cases S;rw[nh]at DW;have PR:=aA P8;have V7:B.getD r e0=es.getD r e0:=by
   rw[Pg.out,bF _ _ _ _ _ hi',if_neg (by have:=ue.out;omega)]
  have XC:=aA V7;clear P8 V7;go_wp2_with fail;refine(gT q g 2 B junkb9 r W9 DW (by have:=PR.out;omega) (by have:=PR.out;omega)).mono ?_;rintro e w9 ⟨rfl,⟨junkb10,IK⟩,yl⟩;obtain⟨k1,v1,GV⟩:∃k1 v1,Hid (B.getD r e0=(k1,v1,(s:Int))):=⟨(es.getD r e0).1,(es.getD r e0).2.1,by show _=_;rw[XC.out,<-Dz.out]⟩;rw[show aBG (B.getD r e0)=.agg #[.string k1,.string v1,iV s] by rw[GV.out];rfl];obtain⟨DY,Ee⟩:=Gp.aw fi hφ (yl.wide fun x _ e=>by rcases e with e | e;exact .inl e;right;rw[nh,e]) (by rw[nh];exact IK);rw[aGS]at DY;have Kr:(setN (setN f c (E,a++d)) b (2,delE B r)).n s=some (E,a):=((bG _ _ (Ne.symm CU)).trans (bG _ _ (Ne.symm fw))).trans ke;have Bu:Sz K (setN (setN f c (E,a++d)) b (2,delE B r)):=(hz.setN Kk (by have:=HC.out.2;have:=nw.out;simp;omega)).setN d5 (by have:=bU B r (by have:=PR.out;omega);have:=PR.out;simp only;omega);have Kn:cu (setN (setN f c (E,a++d)) b (2,delE B r)) s=cu f s:=rfl;have D5:JS 0 f J (setN (setN f c (E,a++d)) b (2,delE B r)) J:=(JS.setN _ Fb).trans (JS.setN _ sm);clear DW IK yl Gp;go_wp2_with fail;refine(oN w9 (jI ρ I c) P (dR A c I) (setN (setN f c (E,a++d)) b (2,delE B r)) J s (E,a) DY Bu (by omega) (by omega) Kr (by rw[Kn];have:=Z.ic.a7 ke;omega) (fun x hx=>Z.ic.bg ke hx) (aEF Z.ic ke)).mono ?_;rintro e w10 ⟨rfl,ρ10,J10,NU,NL,Eb,Fg⟩;have CA:AdS (fun _=>True) A (if cu (setN (setN f c (E,a++d)) b (2,delE B r)) s=1 then gU (dR A c I) s else dR A c I)/\(if cu (setN (setN f c (E,a++d)) b (2,delE B r)) s=1 then gU (dR A c I) s else dR A c I).φ b=A.φ b/\(if cu (setN (setN f c (E,a++d)) b (2,delE B r)) s=1 then gU (dR A c I) s else dR A c I).φ c=A.φ c:=by
   split
   ·exact⟨((AdS.arr A c I).trans (AdS.del _ s)).up fun _ _=>trivial,aC _ _ CU,aC _ _ fw⟩
   ·exact⟨(AdS.arr A c I).top,rfl,rfl⟩
  generalize (if cu (setN (setN f c (E,a++d)) b (2,delE B r)) s=1 then gU (dR A c I) s else dR A c I)=A10 at *;have sq:Hid (fillLast f b i c=some (letGo (setN (setN f c (E,a++d)) b (2,delE B r)) s)):=by
   show fillLast f b i c=_
   rw[HF.out,if_neg nw.out,Pg.out,HY.out];rfl
  clear HF;have HR:=aA (show Dn 12 (fun _=>True) w ρ P A f J w10 ρ10 A10 (letGo (setN (setN f c (E,a++d)) b (2,delE B r)) s) J10/\Sz (K+10) (letGo (setN (setN f c (E,a++d)) b (2,delE B r)) s)from⟨⟨NU,(IJ.trans Ee (fun _ _ e=>e)).trans NL (fun _ _ e=>e),(D5.trans Eb).up (by omega),CA.1⟩,Fg⟩);have HA:=aA CA.2;clear CA DY Ee Eb Fg NU NL IJ;go_wp2;first | go_end0 | refine bodyPost_ret (results_none rfl _ _ _) rfl ?_
  obtain⟨CF,Af⟩:=HR.out;refine⟨fun q=>(by rw[sq.out]at q;cases q),fun g' ti=>?_⟩;rw[sq.out]at ti;cases ti;exact⟨rfl,_,_,J10,CF,HA.out.1,HA.out.2,Af⟩
theorem aIV(w:World)(ρ:Nat->Nat)(P:Nat)(A:Adr)(f:fZ)(J:List aS)(b:Nat)(h:St w ρ P A f J)(r:Sz K f)(H:J.length<=900000)(c:b<f.c.length):
  Calls Tryz.prog 105 #[pT P 0,iV b] w fun e w'=>e=.returned (.tuple #[])/\∃ρ',St w' ρ' P (gU A b) (freeB f b) (J++[(b,cu f b,f.n b)])/\Mv (fun _=>False) w ρ w' ρ'/\Frm (fun k=>ρ k=1\/ρ k=6\/ρ k=3\/ρ k=4) w w':=by
 obtain⟨S,U,T,q,R⟩:=id h;go_enter Tryz.func105,Tryz.ntmps105;go_wp2_with fail;refine(mD _ ρ P A f J b h r c H).mono ?_;rintro e g ⟨rfl,ρ2,m,I,-,t⟩;obtain⟨B,F,D,d,qn⟩:=id m;obtain⟨W,X,Y,Z⟩:=d.cells;have N:(b:Int) <(f.c.length:Int):=by omega
 have V:=d.count c;have Q:g.frozen? (aD A.c b)=false:=d.hc.frozen b;obtain⟨a,i⟩:=m.setC (b:=b) c 0;obtain⟨C,G,E,s,vd⟩:=id a;obtain⟨M,O,L,o⟩:=s.hm.del b (by have:=r.al;omega) 0;have o3:(g.setCell (aD A.c b) (iV 0)).cell? (aD P 3)=some (.map (some A.m)):=s.cells.m3;obtain⟨n,j⟩:=a.del (b:=b) L o;have l:Frm (fun k=>ρ k=1\/ρ k=6\/ρ k=3\/ρ k=4) w M:=by
  refine((t.wide fun x _ e=>by rcases e with e | e;exact .inl e;exact .inr (.inl e)).trans (Frm.set g (p:=aD A.c b) (.inr (.inr (.inr q.rc))) _)).next o (fun x _ e=>.inr (.inr (.inl (by rw[e];exact q.rm))))
 have u:=aA n;have z:=aA j;have y:=aA i;have v:=aA l;clear n j i a l;go_wp2;go_end0;exact⟨rfl,ρ2,u.out,(I.trans y.out (fun _ _ e=>e)).trans z.out (fun _ _ e=>e),v.out⟩
structure SdP(w:World)(ρ:Nat->Nat)(P:Nat)(A:Adr)(f:fZ)(J:List aS)(b:Nat)(key:ByteArray)(K:Int)(e:Ending)(w':World):Prop where
 no:stepDel f b key=none->Pk 24 w ρ P f J e w'
 yes:∀g c,stepDel f b key=some (g,c)->∃ρ' A' J' q,e=.returned (pT q 0)/\A'.φ c=some q/\A'.φ b=A.φ b/\Dn 24 (fun _=>True) w ρ P A f J w' ρ' A' g J'/\Tch c J'/\Sz (K+20) g
theorem aCT(w:World)(ρ:Nat->Nat)(P:Nat)(A:Adr)(f:fZ)(J:List aS)(t H:Nat)(Pt:List Nat)(b h:Nat)(lo hi:OB)(key:ByteArray)(q:Nat)(ug:St w ρ P A f J)(hW:Wk f t H)(hp:aO f t H Pt b (h+1) lo hi)(h2:2<=sz f.n b)(hφ:A.φ b=some q)(hz:Sz K f)(vf:1<=K)(hK:K<=600000)(lq:J.length<=500000)(sm:Tch b J):
  Calls Tryz.prog 104 #[pT P 0,pT q 0,.string key] w (SdP w ρ P A f J b key K):=by
 obtain⟨es,z,ur,au⟩:=hp.inner hW;have Ph:2<=es.length:=by unfold sz at h2;rw[z]at h2;exact h2
 have gh:=hz.ai b _ z;simp only at gh;have d5:b<f.c.length:=hz.lt b _ z;obtain⟨q',r,I,yw,yu,R⟩:=ug.ah z;rw[hφ]at I;cases I;obtain⟨g,hg⟩:=R.bf (by simp only;omega);rw[hg]at R;have fk:bL es key<es.length:=eJ key au;have OH:((bL es key:Nat):Int) <(es.length:Int):=by omega
 have HD:Hid (stepDel f b key=match shadow f (.ai b (bL es key))with
  | none=>none
  | some (g,c)=>
   if 2 <(Fo.look g c).2.length then some (g,c)else
   if bL es key+1 <(Fo.look g b).2.length then(fillNext g b (bL es key) c).map fun k=>(k,c)
   else(fillLast g b (bL es key) c).map fun k=>(k,c)):=by
  show stepDel f b key=_
  unfold stepDel;rw[aF z];rfl
 have mw:es.length+r.length<=maxLen:=R.small;go_enter Tryz.func104,Tryz.ntmps104;go_wp2_with fail;refine(hZ q (2,es) (some g) r key _ R ur.a6 gh).mono ?_;rintro e w2 ⟨rfl,c9⟩;have ay:=ug.below c9;have uf:=R.below c9;have ml:Mv (fun _=>False) w ρ w2 ρ:=Mv.aa c9;have c2:w2.cell? (aD q 1)=some (sL g 0 es.length (es.length+r.length)):=by rw[uf.box.cell];rfl
 clear R c9;simp only at *;generalize hI:bL es key=i at *;have CK:dU f (.ai b i):=⟨d5,es,z,fk⟩;have CJ:gY A (.ai b i) ⟨g,i*3+2,none⟩:=⟨g,hg,rfl⟩;go_wp2_with fail;refine(iM w2 ρ P A f J (.ai b i) ⟨g,i*3+2,none⟩ ay hW.ic hz vf (by omega) (by omega) CK CJ (fun b' i' e=>by cases e;exact sm)).mono ?_;intro e w3 hT;cases Z:shadow f (.ai b i)with
 | none=>
  obtain⟨rfl,ρ3,E,g3,F,W,X,Y⟩:=hT.no Z;have lp:stepDel f b key=none:=by rw[HD.out,Z]
  exact⟨rfl,fun _=>⟨rfl,ρ3,E,g3,F,W,ml.trans X (fun _ _ e=>e),Y.up (by omega)⟩,fun g c l=>by rw[lp]at l;cases l⟩
 | some gc=>
  obtain⟨B,c⟩:=gc;obtain⟨ρ3,E,F,L,rfl,O,v,U,xm⟩:=hT.yes B c Z;obtain⟨u,p2,p3,⟨d,m1,m2,m3,m4⟩,m5,m6,m7,m8,m9⟩:=hW.aj hp z fk Z;obtain⟨⟨kc,a⟩,hd⟩:=u.ic.live (x:=c) (by rw[m6];omega);have zi:2<=a.length:=by
   have:=(p3.ok u.ok).2 (by simp);unfold sz at this;rw[hd]at this;exact this
  have mo:b≠c:=fun e=>by
   have hk:c∈kids (2,d):=by rw[<-m4];exact aR (by rw[m2];exact fk)
   rw[<-e]at hk;exact u.ic.ag m1 hk
  have y9:¬(b=c\/b=bN f (.ai b i)):=fun e=>by
   rcases e with e | e
   ·exact mo e
   ·have hk:bN f (.ai b i)∈kids (2,es):=by simp only[bN,aF z];exact gP fk
    rw[<-e]at hk;exact hW.ic.ag z hk
  have Q:E.φ b=some q:=by rw[v.ad.φ b y9];exact hφ
  obtain⟨q3',m,I,Wl,PG,sx⟩:=v.st.ah hd;rw[O]at I;cases I;obtain⟨qb',s,I,-,-,Rh⟩:=v.st.ah m1;rw[Q]at I;cases I;obtain⟨ab,rk⟩:∃ab,ab=E.α b:=⟨_,rfl⟩;rw[<-rk]at Rh;clear rk;have N:Hid (stepDel f b key=if 2<a.length then some (B,c)else if i+1<d.length then(fillNext B b i c).map fun k=>(k,c)else(fillLast B b i c).map fun k=>(k,c)):=by
   have:=HD.out
   rw[Z]at this;simp only[aF hd,aF m1]at this;exact this
  clear HD;have j:Dn 12 (fun _=>True) w ρ P A f J w3 ρ3 E B F:=⟨v.st,ml.trans v.mv (fun _ _ e=>e),v.js.up (by omega),v.ad.top⟩;have Fw:Tch b F:=v.js.b5 b sm;have vd:F.length<=500012:=by have:=v.js.len;omega
  clear hT v;by_cases S:2<a.length
  ·have BD:decide (2<a.length)=true:=by simpa using S
   have C:=aA S;clear S;go_wp2_with fail;refine(gA L (kc,a) _ m _ sx).mono ?_;rintro e w4 ⟨rfl,G⟩;rw[G];clear G w4;go_wp2;go_ret;refine⟨fun q=>(by rw[N.out,if_pos C.out]at q;cases q),fun g' c' l=>?_⟩;rw[N.out,if_pos C.out]at l;cases l;exact⟨ρ3,E,F,L,rfl,O,Q.trans hφ.symm,⟨j.st,j.mv,j.js.up (by omega),j.ad⟩,U,xm.up (by omega)⟩
  ·have BD:decide (2<a.length)=false:=by simpa using S
   have jg:a.length=2:=by omega
   have C:=aA (aI S jg);clear S jg;have c3:w3.cell? (aD q 1)=some (.slice (adr ab) d.length (d.length+s.length)):=by rw[Rh.box.cell];rfl
   have Zy:d.length+s.length<=maxLen:=Rh.small;obtain⟨i1,M⟩:=exH (i+1);have yt:IntKind.i64.wrap ((i:Int)+1)=(i1:Int):=by
    have:=M.out
    rw[IntWalk.i64_in _ ⟨by omega,by omega⟩];omega
   have Ii:d.length<=9223372036854775807:=by rw[m2];omega
   have HM:=aA (aI m2 m4);have HB:=aA zi;clear m2 m4 zi;by_cases ai:i1<d.length
   ·have BM:((i1:Nat):Int) <(d.length:Int):=by omega
    go_wp2_with fail
    refine(gA L (kc,a) _ m _ sx).mono ?_;rintro e w4 ⟨rfl,G⟩;rw[G];clear G w4;go_wp2_with fail;refine(zE (K:=K+10) w3 ρ3 P E B F t H Pt b h lo hi d i c kc a q L j.st u p2 m1 (by have:=M.out;omega) HM.out.2.symm hd m6 C.out.2 Q O xm (by omega) (by omega) (by omega) Fw U).mono ?_;intro e w5 hF;cases D:fillNext B b i c with
    | none=>
     obtain⟨rfl,ρ5,y,n,p,W,X,Y⟩:=hF.no D;have lp:stepDel f b key=none:=by rw[N.out,if_neg C.out.1,if_pos (by have:=M.out;omega),D];rfl
     exact⟨rfl,fun _=>⟨rfl,ρ5,y,n,p,W,j.mv.trans X (fun _ _ e=>e),(j.js.trans Y).up (by omega)⟩,fun g c l=>by rw[lp]at l;cases l⟩
    | some n=>
     obtain⟨rfl,ρ5,y,p,o,gi,E2,T⟩:=hF.yes n D;have gd:stepDel f b key=some (n,c):=by rw[N.out,if_neg C.out.1,if_pos (by have:=M.out;omega),D];rfl
     have HR:=aA (show Dn 24 (fun _=>True) w ρ P A f J w5 ρ5 y n p/\Tch c p/\Sz (K+20) n from⟨⟨o.st,j.mv.trans o.mv (fun _ _ e=>e),(j.js.trans o.js).up (by omega),(j.ad.trans o.ad).up fun _ _=>trivial⟩,o.js.b5 c U,T.up (by omega)⟩);have V:=aA gd;clear gd hF o T j;go_wp2;go_ret;obtain⟨CF,Rx,Af⟩:=HR.out;refine⟨fun q=>(by rw[V.out]at q;cases q),fun g' c' l=>?_⟩;rw[V.out]at l;cases l;exact⟨ρ5,y,p,L,rfl,E2.trans O,(gi.trans Q).trans hφ.symm,CF,Rx,Af⟩
   ·have BM:¬((i1:Nat):Int) <(d.length:Int):=by omega
    go_wp2_with fail
    refine(gA L (kc,a) _ m _ sx).mono ?_;rintro e w4 ⟨rfl,G⟩;rw[G];clear G w4;go_wp2_with fail;refine(zD (K:=K+10) w3 ρ3 P E B F t H Pt b h lo hi d i c kc a q L j.st u p2 m1 (by have:=M.out;have:=HM.out.1;omega) (by have:=HM.out.1;omega) HM.out.2.symm hd m6 C.out.2 Q O xm (by omega) (by omega) (by omega) Fw U).mono ?_;intro e w5 hF;cases D:fillLast B b i c with
    | none=>
     obtain⟨rfl,ρ5,y,n,p,W,X,Y⟩:=hF.no D;have lp:stepDel f b key=none:=by rw[N.out,if_neg C.out.1,if_neg (by have:=M.out;omega),D];rfl
     exact⟨rfl,fun _=>⟨rfl,ρ5,y,n,p,W,j.mv.trans X (fun _ _ e=>e),(j.js.trans Y).up (by omega)⟩,fun g c l=>by rw[lp]at l;cases l⟩
    | some n=>
     obtain⟨rfl,ρ5,y,p,o,gi,E2,T⟩:=hF.yes n D;have gd:stepDel f b key=some (n,c):=by rw[N.out,if_neg C.out.1,if_neg (by have:=M.out;omega),D];rfl
     have HR:=aA (show Dn 24 (fun _=>True) w ρ P A f J w5 ρ5 y n p/\Tch c p/\Sz (K+20) n from⟨⟨o.st,j.mv.trans o.mv (fun _ _ e=>e),(j.js.trans o.js).up (by omega),(j.ad.trans o.ad).up fun _ _=>trivial⟩,o.js.b5 c U,T.up (by omega)⟩);have V:=aA gd;clear gd hF o T j;go_wp2;go_ret;obtain⟨CF,Rx,Af⟩:=HR.out;refine⟨fun q=>(by rw[V.out]at q;cases q),fun g' c' l=>?_⟩;rw[V.out]at l;cases l;exact⟨ρ5,y,p,L,rfl,E2.trans O,(gi.trans Q).trans hφ.symm,CF,Rx,Af⟩
structure RmP(k:Nat)(L:Int)(w:World)(ρ:Nat->Nat)(P:Nat)(A:Adr)(f:fZ)(J:List aS)(r:Option fZ)(e:Ending)(w':World):Prop where
 no:r=none->Pk k w ρ P f J e w'
 yes:∀g,r=some g->e=.returned (.tuple #[])/\∃ρ' A' J',Dn k (fun _=>True) w ρ P A f J w' ρ' A' g J'/\Sz L g
structure RmR(w:World)(ρ:Nat->Nat)(P:Nat)(A:Adr)(f:fZ)(J:List aS)(K:Int)(t H:Nat)(key:ByteArray)(r:Option fZ)(h:Nat)(v:Value)(W:World):Prop where
 le:h<=H
 ex:∃q b ρ' A' f' J' H' Pt lo hi,v=pT q 0/\A'.φ b=some q/\Dn (12+25*(H-h)) (fun _=>True) w ρ P A f J W ρ' A' f' J'/\Sz (K+10+20*((H-h:Nat):Int)) f'/\Wk f' t H'/\aO f' t H' Pt b h lo hi/\(Pt≠[]->3<=sz f'.n b)/\cJ f' t H'/\Mem f'.n h b key/\Tch b J'/\delAt h f' t b key=r
theorem aGK(w:World)(ρ:Nat->Nat)(P:Nat)(A:Adr)(f:fZ)(J:List aS)(t H:Nat)(key:ByteArray)(ug:St w ρ P A f J)(hW:Wk f t H)(ei:cJ f t H)(kv:Mem f.n H (aB f t) key)(hz:Sz K f)(vf:1<=K)(hK:K+20*(H+3)<=600000)(lq:J.length+25*(H+3)<=500000):
  Calls Tryz.prog 84 #[pT P 0,pT A.ra (t*2+1),.string key] w (RmP (25*(H+3)) (K+20*(H+3)) w ρ P A f J (bX f t H key)):=by
 have hL:dU f (.root t):=hW.tl;have Rd:gY A (.root t) ⟨A.ra,t*2+1,none⟩:=rfl;go_enter Tryz.func84,Tryz.ntmps84;go_wp2_with fail;refine(iM w ρ P A f J (.root t) ⟨A.ra,t*2+1,none⟩ ug hW.ic hz vf (by omega) (by omega) hL Rd (fun b i e=>by cases e)).mono ?_;intro e w3 hT;cases O:shadow f (.root t)with
 | none=>
  obtain⟨rfl,ρ3,A3,g3,J3,a1,a2,a3⟩:=hT.no O;have lp:bX f t H key=none:=by simp only[bX,O]
  exact⟨rfl,fun _=>⟨rfl,ρ3,A3,g3,J3,a1,a2,a3.up (by omega)⟩,fun g V=>by rw[lp]at V;cases V⟩
 | some gc=>
  obtain⟨g1,r⟩:=gc;obtain⟨ρ3,A3,J3,q3,rfl,Bw,c,C5,xm⟩:=hT.yes g1 r O;obtain⟨w1,p1,a1,a2,a3,a4,a5,a6⟩:=hW.ak O;have OR:Mem g1.n H r key:=(hW.bd O key H).1 kv;have HD:Hid (bX f t H key=delAt H g1 t r key):=by
   show bX f t H key=_
   simp only[bX,O]
  obtain⟨m,yo,pd⟩:=mA (RmR w ρ P A f J K t H key (bX f t H key));have Fi:=aA yo;have Fj:=aA pd;have HX:=aA (aI hK lq);have EH:∃h0,RmR w ρ P A f J K t H key (bX f t H key) h0 (pT q3 0) w3:=
   ⟨H,nR _,q3,r,ρ3,A3,g1,J3,H,_,_,_,rfl,Bw,⟨c.st,c.mv,c.js.up (by omega),c.ad.top⟩,xm.up (by omega),w1,p1,fun q=>absurd rfl q,a5 ei,OR,C5,HD.out.symm⟩
  clear yo pd hK lq c hT HD;go_wp2;go_loopw [6] (fun v wr=>∃h,RmR w ρ P A f J K t H key (bX f t H key) h v wr) (fun v wr=>m v wr)
  case atStart=>exact EH
  case round=>
   obtain⟨h',Au⟩:=hrel;have hR:=Fi.out _ _ _ Au;clear Au EH;obtain⟨h,Hh⟩:=exH (m u6 wr);rw[<-Hh.out]at hR;obtain⟨q7,q,b,ρ4,A4,G,J4,H',Pt,lo,hi,rfl,tz,c,jx,w4,Z,h3,Oi,Ij,Fw,zn⟩:=hR;have z:=aA q7;have PO:=aA zn;clear q7 zn;cases h with
   | succ h=>
    obtain⟨es,E,ur,au⟩:=Z.inner w4;obtain⟨q',n,l,yw,yu,C⟩:=c.st.ah E;rw[tz]at l;cases l;have Xk:2<=sz G.n b:=by
     by_cases hP:Pt=[]
     ·rcases Z.top with⟨_,q,q'⟩ | ⟨q,_⟩
      ·rcases Oi with hr | hr
       ·omega
       ·rw[<-q]at hr;exact hr
      ·rw[hP]at q;cases q
     ·have:=h3 hP;omega
    have c0:wr.cell? (aD q 0)=some (iV 2):=by rw[C.box.cell];rfl
    go_wp2_with fail
    refine(aCT (K:=K+10+20*((H -(h+1):Nat):Int)) wr ρ4 P A4 G J4 t H' Pt b h lo hi key q c.st w4 Z Xk tz jx (by omega) (by have:=HX.out;have:=z.out;omega) (by have:=HX.out;have:=c.js.len;have:=z.out;omega) Fw).mono ?_;intro e M hS;cases kr:stepDel G b key with
    | none=>
     obtain⟨rfl,ρ5,s,d,D,b1,b2,b3⟩:=hS.no kr;have lp:bX f t H key=none:=by rw[<-PO.out];unfold delAt;rw[kr]
     exact⟨rfl,fun _=>⟨rfl,ρ5,s,d,D,b1,c.mv.trans b2 (fun _ _ e=>e),(c.js.trans b3).up (by have:=z.out;omega)⟩,fun g V=>by rw[lp]at V;cases V⟩
    | some gc=>
     obtain⟨d,k⟩:=gc;obtain⟨ρ5,s,D,q5,rfl,QK,UA,u,Ep,BY⟩:=hS.yes d k kr;have JA:s.φ b=some q:=UA.trans tz;have y:Dn (12+25*(H -(h+1))+24) (fun _=>True) w ρ P A f J M ρ5 s d D:=⟨u.st,c.mv.trans u.mv (fun _ _ e=>e),c.js.trans u.js,(c.ad.trans u.ad).up fun _ _=>trivial⟩;have YG:Tch b D:=u.js.b5 b Fw;rcases aBR w4 Z h3 Oi Ij kr with⟨B,L,n2,R,X,⟨P',lo',hi',Y⟩,n6,n7,n8⟩ | ⟨F,L,n2,R,X,Y,n6,H5,n7,n8,n9,n10⟩
     ·obtain⟨q',a,l,-,-,o⟩:=u.st.ah L
      rw[JA]at l;cases l;obtain⟨ab,rk⟩:∃ab,ab=s.α b:=⟨_,rfl⟩;rw[<-rk]at o;have c5':M.cell? (aD q 1)=some (.slice (adr ab) B.length (B.length+a.length)):=by rw[o.box.cell];rfl
      have Zx:B.length+a.length<=maxLen:=o.small;have ZZ:((B.length:Int) == 1)=false:=by simp;omega
      have W:RmR w ρ P A f J K t H key (bX f t H key) h (pT q5 0) M:=
       ⟨by have:=z.out;omega,q5,k,ρ5,s,d,D,H',P',lo',hi',rfl,QK,⟨y.st,y.mv,y.js.up (by have:=z.out;omega),y.ad⟩,BY.up (by have:=z.out;omega),X,Y,fun _=>n6,n7,n8,Ep,by rw[<-R];exact PO.out⟩
      clear hS u c y o rk n2 R;go_wp2;go_roundw
      case rel=>exact⟨h,W⟩
      case measure=>
       have h1:=Fj.out _ _ _ W;have h2:=Hh.out;exact Nat.lt_of_le_of_lt h1 (by show h<m _ _;rw[<-h2];exact Nat.lt_succ_self h)
     ·obtain⟨q',a,l,T8,T6,o⟩:=u.st.ah L
      rw[JA]at l;cases l;obtain⟨Q,LC⟩:=o.bf (by simp);rw[LC]at o;have c5':M.cell? (aD q 1)=some (sL Q 0 1 (1+a.length)):=by rw[o.box.cell];rfl
      have DJ:s.ra=A.ra:=y.ad.ra;have h0:0<=(d.r.getD t (0,0)).2:=(Y.rb _ (aQ X)).1;obtain⟨E2,-⟩:=u.st.bh X h0;rw[<-R,DJ]at E2;have nn:k≠b:=fun e=>by
       have hk:k∈kids (2,[F]):=by rw[<-n2];simp[kids]
       rw[e]at hk;exact Y.ag L hk
      have Ex:b<d.c.length:=BY.lt b _ L;have Nv:F.2.2=(k:Int):=by
       have:=Y.ar L (j:=0) (by simp)
       rw[<-n2];unfold ch;have e6:([F]:List E3).getD 0 e0=F:=rfl;rw[e6]at this;omega
      have HN:=aA (aI L (aI R n6));have Fr:=y.js.len;clear R n6;go_wp2_with fail;refine(aIV M ρ5 P s d D b u.st BY (by have:=HX.out;have:=z.out;omega) Ex).mono ?_;rintro e S ⟨rfl,ρ6,I,T,U⟩;have mi:∀x,(x=cK b\/x=cI b)->¬(x=1\/x=6\/x=3\/x=4):=fun x e=>by unfold cK cI at e;omega
      have N:aN S q (2,[F]) (some Q) a:=o.ae U (by rw[T8];exact mi _ (.inl rfl)) (fun x e=>by cases e;rw[T6 Q LC];exact mi _ (.inr rfl));have c6:S.cell? (aD q 1)=some (sL Q 0 1 (1+a.length)):=by rw[N.box.cell];rfl
      have c7:S.cell? (aD Q 2)=some (iV k):=by
       have:=(bM (N.arr Q rfl).1 (i:=0) (by simp)).2.2
       rw[show(([F]++a:List E3).getD 0 e0)=F from rfl,Nv]at this;simpa using this
      have Rb:dU (freeB d b) (.root t):=X;obtain⟨vr,c8,MG,-⟩:=I.bC Rb (p:=aD A.ra (t*2+1)) (by show _=_;rw[<-DJ];rfl);obtain⟨jq,VM⟩:=I.bR Rb (p:=aD A.ra (t*2+1)) (by show _=_;rw[<-DJ];rfl) k;have I6:Sz (K+10+20*((H -(h+1):Nat):Int)+20) (setL (freeB d b) (.root t) k):=by
       have tw:Sz (K+10+20*((H -(h+1):Nat):Int)+20) (freeB d b):=(BY.setC b (v:=0) (by omega) (by omega)).noN b;exact tw.setL Rb k
      have RX:JS (12+25*(H -(h+1))+24+1+0+0) f J (setL (freeB d b) (.root t) k) (D++[(b,cu d b,d.n b)]):=((y.js.trans (JS.save Ex)).trans (JS.freeB Tch.saved)).trans (JS.setL (.root t) k fun b' i' e=>(by cases e));have Vh:Tch k (D++[(b,cu d b,d.n b)]):=(JS.save Ex).b5 k Ep;have Ia:setL (freeB d b) (.root t) k=fallF d t (aB d t) k:=by rw[<-HN.out.2.1];rfl
      rw[Ia]at jq I6 RX;have M3:AdS (fun _=>True) A (gU s b):=(y.ad.trans (AdS.del s b)).up fun _ _=>trivial;have W:RmR w ρ P A f J K t H key (bX f t H key) h (pT q5 0) (S.setCell (aD A.ra (t*2+1)) (iV (k:Int))):=
       ⟨by have:=z.out;omega,q5,k,ρ6,gU s b,_,_,H5,[],none,none,rfl,(aC _ _ nn).trans QK,⟨jq,(y.mv.trans T (fun _ _ e=>e)).trans VM (fun _ _ e=>e),RX.up (by have:=z.out;omega),M3⟩,I6.up (by have:=z.out;omega),n7,n8,fun q=>absurd rfl q,n9,n10,Vh,by rw[<-HN.out.2.2];exact PO.out⟩
      clear hS u c y o N I jq T VM U I6 RX Vh Ia M3 Nv;go_wp2;go_roundw
      case rel=>exact⟨h,W⟩
      case measure=>
       have h1:=Fj.out _ _ _ W;have h2:=Hh.out;exact Nat.lt_of_le_of_lt h1 (by show h<m _ _;rw[<-h2];exact Nat.lt_succ_self h)
   | zero=>
    obtain⟨es,E,ur,zi⟩:=Z.leaf w4;obtain⟨es',l,j,hj,hk⟩:=Ij;rw[E]at l;cases l;have ai:cLt es key<es.length:=by rw[(jW ur.a6 hj hk).2];exact hj
    obtain⟨q',n,l,yw,yu,C⟩:=c.st.ah E;rw[tz]at l;cases l;have gh:=jx.ai b _ E;simp only at gh;have d5:b<G.c.length:=jx.lt b _ E;obtain⟨g,hg⟩:=C.bf (by simp only;omega);rw[hg]at C;have FR:bX f t H key=some (setN G b (1,delE es (cLt es key))):=by rw[<-PO.out];unfold delAt;rw[aF E]
    have Bb:=aA FR;clear FR;have c0:wr.cell? (aD q 0)=some (iV 1):=by rw[C.box.cell];rfl
    have c1:wr.cell? (aD q 1)=some (sL g 0 es.length (es.length+n.length)):=by rw[C.box.cell];rfl
    have Gh:NRd wr (sL g 0 es.length (es.length+n.length)) es:=C.dp.ep;go_wp2_with fail;refine(iG _ es key _ Gh (by omega) ur.a6).mono ?_;rintro e M ⟨dq,he⟩;have F8:e=.returned (.tuple #[iV (cLt es key),.bool (fM es key)]):=he;subst F8;have cy:=c.st.below dq;have o:=C.below dq;obtain⟨i,HI⟩:=exH (cLt es key);rw[<-HI.out]at ai |-;clear C Gh c0 c1;go_wp2_with fail;refine(gT q g 1 es n i M o gh ai).mono ?_;rintro e S ⟨rfl,⟨junk6,N⟩,U⟩;obtain⟨I,T⟩:=cy.aw E tz (U.wide fun x _ e=>by rcases e with e | e;exact .inl e;right;rw[hg,e]) (by rw[hg];exact N);rw[HI.out]at I;have HF:=aA (show Dn (25*(H+3)) (fun _=>True) w ρ P A f J S ρ4 A4 (setN G b (1,delE es (cLt es key))) J4/\Sz (K+20*(H+3)) (setN G b (1,delE es (cLt es key)))from
     ⟨⟨I,(c.mv.trans (Mv.aa dq) (fun _ _ e=>e)).trans T (fun _ _ e=>e),(c.js.trans (JS.setN _ Fw)).up (by omega),c.ad⟩,(jx.up (by omega)).setN d5 (by have:=bU es (cLt es key) (by rw[<-HI.out];exact ai);simp only;omega)⟩)
    clear I T N U cy o c;go_wp2;first | go_end0 | refine bodyPost_ret (results_none rfl _ _ _) rfl ?_
    obtain⟨CF,Af⟩:=HF.out;refine⟨fun q=>(by rw[Bb.out]at q;cases q),fun g' ti=>?_⟩;rw[Bb.out]at ti;cases ti;exact⟨rfl,_,_,J4,CF,Af⟩
