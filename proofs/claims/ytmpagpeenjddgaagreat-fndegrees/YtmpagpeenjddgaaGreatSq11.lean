import Derived.Test.YtmpagpeenjddgaaGreatSq8
import Derived.Test.YtmpagpeenjddgaaGreatHq28
set_option maxHeartbeats 9999999
set_option maxRecDepth 99999
set_option linter.all false
namespace Go.Proofs.YtmpagpeenjddgaaGreat
open Go.RowKit Fo
variable{key:ByteArray}{k tree:Int}{ces es ses:List E3}{H b h i j t:Nat}{f g:fZ}
theorem oJ(h:Wd g b es (j+1) j k ces ses)(P9:¬j+1+1<es.length)(h2:ses.length=2)(w:World)(S:Nat)(A:SA)(c:Sp w S A g):
  Calls Tryz.prog 77 #[pT S 0,iV b,iV ((j+1:Nat):Int)] w fun e w'=>e=.returned (.bool true)/\Zt w S A (mergeF g b (kd es (j+1)) (kd es j) k (ses++ces) (delE (es.set (j+1) (ky es j,.empty,(kd es (j+1):Int))) j)) w':=by
 have mq:=gW;have Gr:=jA;obtain⟨i,i8⟩:=eZ (j+1);rw[i8]at h P9 |-;have zq:=h.ai b _ h.hb;simp only at zq;have d5:=h.ic.lt h.hb;have N:=h.ic.lt h.hc;obtain⟨v0,_⟩:=h.ve.inner h.ic h.hb h.hi;obtain⟨v1,_⟩:=h.ve.inner h.ic h.hb h.hj;obtain⟨_,s1,_⟩:=c.cells;obtain⟨a,cp,I,y9,_,_,c1,_⟩:=c.v.aq.at h.hb;obtain⟨G,f,Q,Kd,_,d0,d1,_⟩:=c.v.aq.at h.hc;obtain⟨m,o,ts,Tn,_,_,e1,_⟩:=c.v.aq.at h.hs;simp only at I c1 Q d0 d1 ts e1;obtain⟨P,o0,cc,he,vj,F⟩:=eG I (by have:=h.hi;omega);cases he;obtain⟨_,_,x2⟩:=F w i rfl h.hi;have au:P≠A.ga:=by
  rcases I with⟨q,_⟩ | ⟨g',o',cap',xs,q,q1,_⟩
  ·cases q
  ·cases q;exact q1.ab c.v.aq.arr (by decide)
 rw[v0]at x2;obtain⟨B,hB⟩:=eZ (w.heap.size);obtain⟨w0,ng⟩:=eZ (w.alloc (.cells #[iV k,.slice G ces.length f] 96));have v:=bAl ng;have n:=iNw ng hB;obtain⟨y0,_,y2⟩:=F w0 j (v.block _ vj) h.hj;rw[v1]at y0 y2;have D:=c.below v;obtain⟨_,t1,_⟩:=D.cells;have C:w0.cell? (aD A.ga (kd es j*2+1))=some (.slice m ses.length o):=(v.cell (p:=aD A.ga _) c.v.aq.arr.lt).trans e1;have b0:w0.cell? (aD B 0)=some (iV k):=n.c rfl;have b1:w0.cell? (aD B 1)=some (.slice G ces.length f):=n.c rfl;have ym:S≠A.ga:=c.box.ab c.v.aq.arr (by decide);have Aq:B≠A.ga:=by have:=c.v.aq.arr.lt;omega
 have Fz:(b:Int) <(A.ns.length:Int):=by omega
 have Gu:(kd es i:Int) <(A.ns.length:Int):=by omega
 have Hk:(kd es j:Int) <(A.ns.length:Int):=by omega
 have LG:(i:Int) <(es.length:Int):=by have:=h.hi;omega
 have GC:=h.hi;have Cd:=h.hj;obtain⟨i2,AW⟩:=eZ (i+1);have yt:IntKind.i64.wrap ((i:Int)+1)=(i2:Int):=(IntWalk.i64_in _ ⟨by omega,by omega⟩).trans (by omega);have hwj:IntKind.i64.wrap ((i:Int)-1)=(j:Int):=(IntWalk.i64_in _ ⟨by omega,by omega⟩).trans (by omega);have Sw:¬((i2:Int) <(es.length:Int)):=by omega
 have LJ:(j:Int) <(es.length:Int):=by omega
 have mr:((ses.length:Int) == 2)=true:=by rw[h2];rfl
 have M:=aA (D.cy (ts.below v) (Q.below v) (by omega) (by have:=h.c2;omega) k N);have K:=aA fun(w1:World) (hF:Frm (fun k=>k=A.ga) w w1)=>eY _ es i (ky es j,.empty,(kd es i:Int)) w1 (c.di I hF) h.hi (by omega);have ud:=aA fun(w1:World) (hF:Frm (fun k=>k=A.ga) w w1)=>(F w1 j (hF.block P vj au) h.hj).1;have ny:=aA D;have GP:=aA v;have T:Hid (kd es j≠kd es i):=h.cs.symm;have J:Hid (∀w1,Bl w0 w1->w1.cell? (aD B 0)=some (iV k)/\w1.cell? (aD B 1)=some (.slice G ces.length f)/\w1.cell? (aD A.ga (kd es j*2+1))=some (.slice m ses.length o)):=fun w1 U=>by
  refine⟨?_,?_,?_⟩
  ·rw[(n.of (U.block _ n.lt)).cell];rfl
  ·rw[(n.of (U.block _ n.lt)).cell];rfl
  ·exact(U.cell (p:=aD A.ga _) D.v.aq.arr.lt).trans C
 obtain⟨q,V⟩:=eZ (kd es i);obtain⟨s,X⟩:=eZ (kd es j);rw[V]at x2 d0 d1 Gu M T N K;rw[X]at y2 C Hk T J;rw[V,X];clear F Q ts n D v0 v1 V X AW h2 i8;go_enter Tryz.func77,Tryz.ntmps77;go_wp2;go_region_held3 (fun W=>W.cell? (aD S 1)=some (sL A.ga 0 A.ns.length (A.ns.length+A.nj.length))/\W.cell? (aD B 0)=some (iV k)/\W.cell? (aD B 1)=some (.slice G ces.length f)/\W.cell? (aD A.ga (s*2+1))=some (.slice m ses.length o)) (first | assumption | go_keep | exact⟨t,R,xt,L⟩ | exact⟨cB ym t,cB Aq R,cB Aq xt,aNG T.out L⟩) ((go_at_call 90;refine M.out.mono ?_;rintro r w1 ⟨⟨y,rfl,Dv,Ad⟩,ao,t,k0,k1,Z,ie,jw,ix⟩;obtain⟨R,xt,L⟩:=J.out w1 ao));rw[dM Dv];obtain⟨⟨l,O,D4⟩,dz⟩:=ny.out.store ao N Ad;have E:Frm (fun k=>k=A.ga) w (set2 w1 A.ga q y):=(Frm.aa GP.out).trans dz;have DO:=aA (K.out _ E);have yk:(set2 w1 A.ga q y).cell? (aD P (o0+j*3))=some (.string (ky es j)):=ud.out _ E;have sq:=aA E;have pq:=aA O;have J8:S≠l.ga:=by rw[D4.ga];exact ym
 have R5:(b:Int) <(l.ns.length:Int):=by have:=O.v.ln;have:l.ns.length=g.c.length:=this;omega
 have Ah:Hid (Fin (setN g q (k,ses++ces)) (mergeF g b q s k (ses++ces) (delE (es.set i (ky es j,.empty,(q:Int))) j)) b (2,delE (es.set i (ky es j,.empty,(q:Int))) j)):=⟨fun x d hx=>tB x d hx,(aZ.mergeF ..).c,qF ..,(aZ.mergeF ..).next,(aZ.mergeF ..).gen,(aZ.mergeF ..).m⟩;generalize set2 w1 A.ga q y=w2 at *;clear t R xt L Z ie jw ix Ad dz E O K J M ud;go_wp2_with fail;refine DO.out.mono ?_;rintro r w4 ⟨u,rfl,Y,it⟩;obtain⟨ua,uc,rfl⟩:=Y.sl.len;have H:=pq.out.below it;have t4:=H.cells.2.1;have JT:=aA (H.bo (i:=j) Y.sl (by simp;omega) (by simp;omega) 2 (show b<g.c.length from d5));have B8:=aA H;simp only[List.length_set]at *;clear H Y;go_wp2;go_region_held3 (fun W=>W.cell? (aD S 1)=some (sL l.ga 0 l.ns.length (l.ns.length+l.nj.length))) (first | assumption | go_keep | exact cB J8 t) ((go_at_call 78;refine JT.out.mono ?_;rintro r w3 ⟨⟨z,rfl,Bv,Hx⟩,bg,t,k0,k1,Z,ie,jw,ix⟩));rw[dM Bv];have HR:Hid (Zt w S A (mergeF g b q s k (ses++ces) (delE (es.set i (ky es j,.empty,(q:Int))) j)) (set2 w3 l.ga b z)):=Zt.trans (sq.out.trans (Frm.aa it)) D4 (B8.out.fin bg (show b<g.c.length from d5) Hx Ah.out);clear t Z ie jw ix;go_wp2;go_ret;exact⟨rfl,HR.out⟩
theorem pP(h:Wd g b es i (i+1) k ces ses)(h2:2<ses.length)(w:World)(S:Nat)(A:SA)(n:Sp w S A g):
  Calls Tryz.prog 77 #[pT S 0,iV b,iV i] w (ZpP w S A ((shadow g (.ai b (i+1))).map fun p=>moveF p.1 b (kd es i) p.2 k (ces++ses.take 1) (ses.drop 1) (es.set (i+1) (ky ses 1,.empty,(p.2:Int))))):=by
 have mq:=gW;have Gr:=jA;have zq:=h.ai b _ h.hb;simp only at zq;have d5:=h.ic.lt h.hb;have ap:=h.ic.lt h.hc;obtain⟨v0,_⟩:=h.ve.inner h.ic h.hb h.hi;obtain⟨v1,_⟩:=h.ve.inner h.ic h.hb h.hj;obtain⟨_,s1,_⟩:=n.cells;obtain⟨a,cp,ef,y9,_,_,c1,_⟩:=n.v.aq.at h.hb;obtain⟨E,f,gp,Kd,_,d0,d1,_⟩:=n.v.aq.at h.hc;obtain⟨U,X,ts,Tn,_,_,O,_⟩:=n.v.aq.at h.hs;simp only at ef c1 gp d0 d1 ts O;obtain⟨g0,o0,cc,he,vj,aa⟩:=eG ef (by have:=h.hi;omega);cases he;obtain⟨_,_,x2⟩:=aa w i rfl h.hi;have au:g0≠A.ga:=by
  rcases ef with⟨q,_⟩ | ⟨g',o',V,xs,q,q1,_⟩
  ·cases q
  ·cases q;exact q1.ab n.v.aq.arr (by decide)
 rw[v0]at x2;obtain⟨B,hB⟩:=eZ (w.heap.size);obtain⟨w0,ng⟩:=eZ (w.alloc (.cells #[iV k,.slice E ces.length f] 96));have il:=bAl ng;have F:=iNw ng hB;obtain⟨_,_,y2⟩:=aa w0 (i+1) (il.block _ vj) h.hj;rw[v1]at y2;have lh:=n.below il;obtain⟨_,t1,_⟩:=lh.cells;have J:w0.cell? (aD A.ga (kd es (i+1)*2+1))=some (.slice U ses.length X):=(il.cell (p:=aD A.ga _) n.v.aq.arr.lt).trans O;have b0:w0.cell? (aD B 0)=some (iV k):=F.c rfl;have b1:w0.cell? (aD B 1)=some (.slice E ces.length f):=F.c rfl;have ym:S≠A.ga:=n.box.ab n.v.aq.arr (by decide);have Aq:B≠A.ga:=by have:=n.v.aq.arr.lt;omega
 have Fz:(b:Int) <(A.ns.length:Int):=by omega
 have Gu:(kd es i:Int) <(A.ns.length:Int):=by omega
 have Hk:(kd es (i+1):Int) <(A.ns.length:Int):=by omega
 have LG:(i:Int) <(es.length:Int):=by have:=h.hi;omega
 obtain⟨j,Z⟩:=eZ (i+1);have yt:IntKind.i64.wrap ((i:Int)+1)=(j:Int):=(IntWalk.i64_in _ ⟨by omega,by omega⟩).trans (by omega);have Sv:(j:Int) <(es.length:Int):=by have:=h.hj;omega
 have mr:((ses.length:Int) == 2)=false:=by rw[beq_eq_false_iff_ne];omega
 have Dr:=h.ai _ _ h.hs;simp only at Dr;have GK:=fun g' c (q:shadow g (.ai b (i+1))=some (g',c))=>dG h.ic h.ve h.hb h.hj h.hs q;have xo:=aA (iD h.ic (fun b d hd=>(by have:=h.ai b d hd;omega:d.2.length<=10)) h.ve w0 S A lh h.br b (i+1) es h.hb h.hj);have IA:=aA fun(w1:World) (hF:Frm (fun k=>k=A.ga) w w1)=>n.di ef hF;have JP:=aA fun(w1:World) (hF:Frm (fun k=>k=A.ga) w w1)=>n.di gp hF;have ny:=aA lh;have GP:=aA il;have hX:Hid (kd es (i+1)≠kd es i):=h.cs.symm;have AH:Hid (∀w1,Bl w0 w1->w1.cell? (aD B 0)=some (iV k)/\w1.cell? (aD B 1)=some (.slice E ces.length f)/\w1.cell? (aD A.ga (kd es (i+1)*2+1))=some (.slice U ses.length X)):=fun w1 C=>by
  refine⟨?_,?_,?_⟩
  ·rw[(F.of (C.block _ F.lt)).cell];rfl
  ·rw[(F.of (C.block _ F.lt)).cell];rfl
  ·exact(C.cell (p:=aD A.ga _) lh.v.aq.arr.lt).trans J
 rw[Z]at y2 J Hk hX xo GK;rw[Z];obtain⟨q,hq⟩:=eZ (kd es i);obtain⟨s,hs⟩:=eZ (kd es j);have P4:=h.hs;have Ig:=h.hc;have BG:=h.cs;have mo:=h.bc;rw[Z]at P4 BG;rw[hq]at x2 d0 d1 Gu hX ap Ig BG mo;rw[hs]at y2 J Hk hX xo P4 BG GK;rw[hq];have XD:Hid (j<es.length):=by show j<_;rw[<-Z];exact h.hj
 have GT:=aA F;clear aa gp ts F lh v0 v1 hq hs Z AH;go_enter Tryz.func77,Tryz.ntmps77;go_wp2_with fail;refine xo.out.mono ?_;intro r M hz;obtain⟨bo,xg,xh⟩:=hz;cases H:shadow g (.ai b j)with
 | none=>
  obtain rfl:=xg H;have DN:=aA H;clear xg xh H;go_wp2;go_ret;rw[DN.out];exact⟨fun _=>⟨rfl,(Frm.aa GP.out).trans bo⟩,fun g q=>by cases q⟩
 | some gc=>
  obtain⟨g',c⟩:=gc;obtain⟨rfl,l,v,N,CB,Bp,I⟩:=xh g' c H;obtain⟨n1,n2,n3,n4,n5,n6⟩:=GK g' c H;have Hf:q≠c:=n4 q _ Ig BG;have ME:v.n c=some (k,ses):=by
   have:=I.sub c _ n1
   have e:(setN v b (2,es.set j (ky es j,.empty,(c:Int)))).n c=v.n c:=aC _ _ n2;rw[e]at this;exact this
  have Gd:Frm (fun k=>k=A.ga) w M:=(Frm.aa GP.out).trans bo;have FJ:v.c.length=g.c.length:=Bp;obtain⟨_,t3,_⟩:=N.cells;obtain⟨as3,G,Q,To,_,_,f1,Gv⟩:=N.v.aq.at ME;simp only at Q f1 Gv;obtain⟨K,os,cs3',Kv,Bm,lz⟩:=eG Q (by omega);cases Kv;have LE:K≠l.ga:=by
   rcases Q with⟨q,_⟩ | ⟨g',o',V,xs,q,q1,_⟩
   ·cases q
   ·cases q;exact q1.ab N.v.aq.arr (by decide)
  have yy:B≠l.ga:=by rw[CB.ga];exact Aq
  have L:IsC M B #[iV k,.slice E ces.length f] 96:=GT.out.ae bo Aq;have Em:S≠l.ga:=by rw[CB.ga];exact ym
  have E6:(1:Int)<=(G:Int):=by omega
  have AS:¬((c:Int)<0):=by omega
  have SH:(c:Int) <(l.ns.length:Int):=by omega
  have Te:(q:Int) <(l.ns.length:Int):=by have:=N.v.ln;omega
  have HJ:=aA (N.cy (JP.out M Gd) (Q.takeN 1 (by omega) G) (by have:=h.c2;omega) (by simp;omega) k (b:=q) (by omega));have p0:M.cell? (aD B 0)=some (iV k):=L.c rfl;have p1:M.cell? (aD B 1)=some (.slice E ces.length f):=L.c rfl;have AH:Hid (∀w1,Bl M w1->w1.cell? (aD B 0)=some (iV k)/\w1.cell? (aD B 1)=some (.slice E ces.length f)):=fun w1 C=>by
   refine⟨?_,?_⟩
   ·rw[(L.of (C.block _ L.lt)).cell];rfl
   ·rw[(L.of (C.block _ L.lt)).cell];rfl
  have Ui:=aA N;have UJ:=aA lz;have Qv:=aA Q;have QS:=aA L;clear xg xh lz Q GK;go_wp2;go_region_held3 (fun W=>W.cell? (aD S 1)=some (sL l.ga 0 l.ns.length (l.ns.length+l.nj.length))/\W.cell? (aD B 0)=some (iV k)/\W.cell? (aD B 1)=some (.slice E ces.length f)) (first | assumption | go_keep | exact⟨o,t,xt⟩ | exact⟨cB Em o,cB yy t,cB yy xt⟩) ((go_at_call 90;refine HJ.out.mono ?_;rintro r w4 ⟨⟨y,rfl,Dv,Ad⟩,it,o,k0,k1,iN,ie,jw,ix⟩;obtain⟨t,xt⟩:=AH.out w4 it));rw[dM Dv];obtain⟨⟨m,Y,T⟩,ez⟩:=Ui.out.store (q:=q) it (by omega) Ad;have FX:=Ui.out.di Qv.out ez;have tg:IsC (set2 w4 l.ga q y) B #[iV k,.slice E ces.length f] 96:=QS.out.ae ez yy;have Ii:(setN v q (k,ces++ses.take 1)).c.length=g.c.length:=FJ;have RI:B≠m.ga:=by rw[T.ga];exact yy
  have NX:S≠m.ga:=by rw[T.ga];exact Em
  have B9:=aA (Y.bo (i:=0) FX (by omega) (by omega) k (b:=c) (by omega));have t5:=Y.cells.2.1;have p5:(set2 w4 l.ga q y).cell? (aD B 0)=some (iV k):=tg.c rfl;have Yf:(c:Int) <(m.ns.length:Int):=by have:=Y.v.ln;omega
  have vb:=aA ez;have Cw:=aA Y;have Qx:=aA FX;have JD:=aA tg;obtain⟨w5,tu⟩:=eZ (set2 w4 l.ga q y);rw[tu]at Cw Qx B9 vb t5 p5 JD;rw[tu];have D2:Hid (∀w1,Bl w5 w1->w1.cell? (aD B 0)=some (iV k)):=fun w1 C=>by rw[(JD.out.of (C.block _ JD.out.lt)).cell];rfl
  clear o t xt iN ie jw ix Ad ez Y FX tg HJ AH tu;go_wp2;go_region_held3 (fun W=>W.cell? (aD S 1)=some (sL m.ga 0 m.ns.length (m.ns.length+m.nj.length))/\W.cell? (aD B 0)=some (iV k)) (first | assumption | go_keep | exact⟨o,t⟩ | exact⟨cB NX o,cB RI t⟩) ((go_at_call 78;refine B9.out.mono ?_;rintro r R ⟨⟨z,rfl,Bv,Hx⟩,nk,o,k0,k1,iN,ie,jw,ix⟩;have t:=D2.out R nk));rw[dM Bv];obtain⟨⟨D,P,ES⟩,xr⟩:=Cw.out.store (q:=c) nk (by omega) Hx;have IX:delE ses 0=ses.drop 1:=by simp[delE]
  rw[IX]at P;have CG:Frm (fun k=>k=l.ga) M (set2 R m.ga c z):=vb.out.trans (xr.wide fun k _ e=>e.trans T.ga);have Jl:Frm (fun k=>k=A.ga) w (set2 R m.ga c z):=Gd.trans (CG.wide fun k _ e=>e.trans CB.ga);have FZ:=IA.out _ Jl;obtain⟨z0,_,_⟩:=UJ.out (set2 R m.ga c z) 1 (CG.block K Bm LE) (by omega);have S9:(ses.getD 1 e0).1=ky ses 1:=rfl;rw[S9,Nat.one_mul]at z0;have MM:(setN (setN v q (k,ces++ses.take 1)) c (k,ses.drop 1)).c.length=g.c.length:=FJ;have En:S≠D.ga:=by rw[ES.ga];exact NX
  have t7:=P.cells.2.1;have Nk:(b:Int) <(D.ns.length:Int):=by have:=P.v.ln;omega
  have Zv:(1:Int) <(ses.length:Int):=by omega
  have AJ:=aA (P.dk (i:=j) (ky ses 1,.empty,(c:Int)) FZ XD.out (by omega) 2 (b:=b) (by omega));have Ah:Hid (Fin (setN (setN v q (k,ces++ses.take 1)) c (k,ses.drop 1)) (moveF g' b q c k (ces++ses.take 1) (ses.drop 1) (es.set j (ky ses 1,.empty,(c:Int)))) b (2,es.set j (ky ses 1,.empty,(c:Int)))):=by
   refine⟨fun x d' hx=>?_,I.len,I.r,I.next,I.gen,I.m⟩;have u:upd (upd (upd g'.n q (some (k,ces++ses.take 1))) c (some (k,ses.drop 1))) b (some (2,es.set j (ky ses 1,.empty,(c:Int)))) x=some d':=hx;show upd (upd (upd v.n q (some (k,ces++ses.take 1))) c (some (k,ses.drop 1))) b (some (2,es.set j (ky ses 1,.empty,(c:Int)))) x=some d'
   by_cases O:x=b
   ·rw[O,aE]at u |-;exact u
   ·rw[aC _ _ O]at u |-
    by_cases e2:x=c
    ·rw[e2,aE]at u |-;exact u
    ·rw[aC _ _ e2]at u |-
     by_cases e3:x=q
     ·rw[e3,aE]at u |-;exact u
     ·rw[aC _ _ e3]at u |-
      have:=I.sub x d' u
      have e:(setN v b (2,es.set j (ky es j,.empty,(c:Int)))).n x=v.n x:=aC _ _ O;rw[e]at this;exact this
  have Qf:=aA Jl;have Dx:Hid (SaS A D):=(CB.trans T).trans ES;have XX:=aA P;have DN:=aA H;have Sr:K≠D.ga:=by rw[ES.ga,T.ga];exact LE
  have OF:K <(set2 R m.ga c z).heap.size:=lL Bm CG.size;generalize set2 R m.ga c z=w7 at *;have Xf:Hid (∀w1,Bl w7 w1->w1.cell? (aD K (os+3))=some (.string (ky ses 1))):=fun w1 C=>(C.cell (p:=aD K _) OF).trans z0;clear o t iN ie jw ix Hx xr P FZ B9 D2 CG Jl H;go_wp2;go_region_held3 (fun W=>W.cell? (aD S 1)=some (sL D.ga 0 D.ns.length (D.ns.length+D.nj.length))/\W.cell? (aD K (os+3))=some (.string (ky ses 1))) (first | assumption | go_keep | exact⟨o,t⟩ | exact⟨cB En o,cB Sr t⟩) ((go_at_call 76;refine AJ.out.mono ?_;rintro r w8 ⟨⟨x,rfl,Ac,BW⟩,sf,o,k0,k1,iN,ie,jw,ix⟩;have t:=Xf.out w8 sf));rw[dM Ac];have HR:Hid (Zt w S A (moveF g' b q c k (ces++ses.take 1) (ses.drop 1) (es.set j (ky ses 1,.empty,(c:Int)))) (set2 w8 D.ga b x)):=Zt.trans Qf.out Dx.out (XX.out.fin sf (by omega) BW Ah.out);clear o t iN ie jw ix;go_wp2;go_ret;rw[DN.out];exact⟨fun q=>(by cases q),fun g2 q2=>(by simp only[Option.map_some,sJ]at q2;subst q2;exact⟨rfl,HR.out⟩)⟩
theorem pO(h:Wd g b es (j+1) j k ces ses)(P9:¬j+1+1<es.length)(h2:2<ses.length)(w:World)(S:Nat)(A:SA)(t:Sp w S A g):
  Calls Tryz.prog 77 #[pT S 0,iV b,iV ((j+1:Nat):Int)] w (ZpP w S A ((shadow g (.ai b j)).map fun p=>moveF p.1 b p.2 (kd es (j+1)) k (ses.take (ses.length-1)) (ses.drop (ses.length-1)++ces) ((es.set (j+1) (ky ses (ses.length-1),.empty,(kd es (j+1):Int))).set j (ky es j,.empty,(p.2:Int))))):=by
 have mq:=gW;have Gr:=jA;obtain⟨i,i8⟩:=eZ (j+1);rw[i8]at h P9 |-;have zq:=h.ai b _ h.hb;simp only at zq;have d5:=h.ic.lt h.hb;have ap:=h.ic.lt h.hc;obtain⟨v0,_⟩:=h.ve.inner h.ic h.hb h.hi;obtain⟨v1,_⟩:=h.ve.inner h.ic h.hb h.hj;obtain⟨_,s1,_⟩:=t.cells;obtain⟨a,cp,ef,y9,_,_,c1,_⟩:=t.v.aq.at h.hb;obtain⟨I,l,gp,Kd,_,d0,d1,_⟩:=t.v.aq.at h.hc;obtain⟨Y,Z,ts,Tn,_,_,T,_⟩:=t.v.aq.at h.hs;simp only at ef c1 gp d0 d1 ts T;obtain⟨g0,o0,cc,he,vj,aa⟩:=eG ef (by have:=h.hi;omega);cases he;obtain⟨_,_,x2⟩:=aa w i rfl h.hi;have au:g0≠A.ga:=by
  rcases ef with⟨q,_⟩ | ⟨g',o',K,xs,q,P,_⟩
  ·cases q
  ·cases q;exact P.ab t.v.aq.arr (by decide)
 rw[v0]at x2;obtain⟨B,hB⟩:=eZ (w.heap.size);obtain⟨w0,ng⟩:=eZ (w.alloc (.cells #[iV k,.slice I ces.length l] 96));have il:=bAl ng;have J:=iNw ng hB;obtain⟨_,_,y2⟩:=aa w0 j (il.block _ vj) h.hj;rw[v1]at y2;have lh:=t.below il;obtain⟨_,t1,_⟩:=lh.cells;have e10:w0.cell? (aD A.ga (kd es j*2+1))=some (.slice Y ses.length Z):=(il.cell (p:=aD A.ga _) t.v.aq.arr.lt).trans T;have b0:w0.cell? (aD B 0)=some (iV k):=J.c rfl;have b1:w0.cell? (aD B 1)=some (.slice I ces.length l):=J.c rfl;have ym:S≠A.ga:=t.box.ab t.v.aq.arr (by decide);have Aq:B≠A.ga:=by have:=t.v.aq.arr.lt;omega
 have Fz:(b:Int) <(A.ns.length:Int):=by omega
 have Gu:(kd es i:Int) <(A.ns.length:Int):=by omega
 have Hk:(kd es j:Int) <(A.ns.length:Int):=by omega
 have LG:(i:Int) <(es.length:Int):=by have:=h.hi;omega
 have GC:=h.hi;have Cd:=h.hj;obtain⟨i2,AW⟩:=eZ (i+1);have yt:IntKind.i64.wrap ((i:Int)+1)=(i2:Int):=(IntWalk.i64_in _ ⟨by omega,by omega⟩).trans (by omega);have hwj:IntKind.i64.wrap ((i:Int)-1)=(j:Int):=(IntWalk.i64_in _ ⟨by omega,by omega⟩).trans (by omega);have Sw:¬((i2:Int) <(es.length:Int)):=by omega
 have LJ:(j:Int) <(es.length:Int):=by omega
 have mr:((ses.length:Int) == 2)=false:=by rw[beq_eq_false_iff_ne];omega
 have Dr:=h.ai _ _ h.hs;simp only at Dr;have GK:=fun g' f (q:shadow g (.ai b j)=some (g',f))=>dG h.ic h.ve h.hb h.hj h.hs q;have xo:=aA (iD h.ic (fun b d hd=>(by have:=h.ai b d hd;omega:d.2.length<=10)) h.ve w0 S A lh h.br b j es h.hb h.hj);have IA:=aA fun(w1:World) (hF:Frm (fun k=>k=A.ga) w w1)=>t.di ef hF;have JP:=aA fun(w1:World) (hF:Frm (fun k=>k=A.ga) w w1)=>t.di gp hF;have ny:=aA lh;have GP:=aA il;have hX:Hid (kd es j≠kd es i):=h.cs.symm;have AH:Hid (∀w1,Bl w0 w1->w1.cell? (aD B 0)=some (iV k)/\w1.cell? (aD B 1)=some (.slice I ces.length l)/\w1.cell? (aD A.ga (kd es j*2+1))=some (.slice Y ses.length Z)):=fun w1 o=>by
  refine⟨?_,?_,?_⟩
  ·rw[(J.of (o.block _ J.lt)).cell];rfl
  ·rw[(J.of (o.block _ J.lt)).cell];rfl
  ·exact(o.cell (p:=aD A.ga _) lh.v.aq.arr.lt).trans e10
 obtain⟨q,hq⟩:=eZ (kd es i);obtain⟨s,hs⟩:=eZ (kd es j);have P4:=h.hs;have Ig:=h.hc;have BG:=h.cs;have mo:=h.bc;rw[hq]at x2 d0 d1 Gu hX ap Ig BG mo;rw[hs]at y2 e10 Hk hX xo P4 BG GK;rw[hq];have GT:=aA J;clear aa gp ts J lh v0 v1 hq hs AW AH;go_enter Tryz.func77,Tryz.ntmps77;go_wp2_with fail;refine xo.out.mono ?_;intro r w3 hz;obtain⟨bo,xg,xh⟩:=hz;cases N:shadow g (.ai b j)with
 | none=>
  obtain rfl:=xg N;have DN:=aA N;clear xg xh N;go_wp2;go_ret;rw[DN.out];exact⟨fun _=>⟨rfl,(Frm.aa GP.out).trans bo⟩,fun g q=>by cases q⟩
 | some gc=>
  obtain⟨g',f⟩:=gc;obtain⟨rfl,m,E,R,CB,Bp,O⟩:=xh g' f N;obtain⟨n1,n2,n3,n4,n5,n6⟩:=GK g' f N;have Hf:q≠f:=n4 q _ Ig BG;have ME:E.n f=some (k,ses):=by
   have:=O.sub f _ n1
   have e:(setN E b (2,es.set j (ky es j,.empty,(f:Int)))).n f=E.n f:=aC _ _ n2;rw[e]at this;exact this
  have Gd:Frm (fun k=>k=A.ga) w w3:=(Frm.aa GP.out).trans bo;have FJ:E.c.length=g.c.length:=Bp;obtain⟨_,t3,_⟩:=R.cells;obtain⟨as3,cps3,nf,To,_,_,f1,Gv⟩:=R.v.aq.at ME;simp only at nf f1 Gv;obtain⟨gs,os,cs3',Kv,Bm,lz⟩:=eG nf (by omega);cases Kv;have LE:gs≠m.ga:=by
   rcases nf with⟨q,_⟩ | ⟨g',o',K,xs,q,P,_⟩
   ·cases q
   ·cases q;exact P.ab R.v.aq.arr (by decide)
  have yy:B≠m.ga:=by rw[CB.ga];exact Aq
  have lk:IsC w3 B #[iV k,.slice I ces.length l] 96:=GT.out.ae bo Aq;have Em:S≠m.ga:=by rw[CB.ga];exact ym
  have E6:(1:Int)<=(cps3:Int):=by omega
  have AS:¬((f:Int)<0):=by omega
  have SH:(f:Int) <(m.ns.length:Int):=by omega
  have Te:(q:Int) <(m.ns.length:Int):=by have:=R.v.ln;omega
  obtain⟨c,OV⟩:=eZ (ses.length-1);have O6:IntKind.i64.wrap ((ses.length:Int)-1)=(c:Int):=(IntWalk.i64_in _ ⟨by omega,by omega⟩).trans (by omega);have TS:(c:Int) <(ses.length:Int):=by omega
  have G9:c<ses.length:=by omega
  obtain⟨q0,P,q2⟩:=lz w3 c rfl G9;obtain⟨L,hL⟩:=eZ (ses.getD c e0);rw[hL]at q0 P q2;have VK:ky ses c=L.1:=by unfold ky;rw[hL]
  obtain⟨B4,du⟩:=eZ (w3.heap.size);obtain⟨H,ci⟩:=eZ (w3.alloc (.cells #[.string L.1,.string L.2.1,iV L.2.2] 130));have X:=bAl ci;have v:=iNw ci du;have av:=R.below X;have Jk:Frm (fun k=>k=A.ga) w H:=Gd.trans (Frm.aa X);have M:=lk.of (X.block _ lk.lt);have r9:=aA (av.ew (i:=0) L (JP.out H Jk) (by omega) (by have:=h.c2;omega) k (b:=q) (by omega));have t4:=av.cells.2.1;have p0:H.cell? (aD B 0)=some (iV k):=M.c rfl;have p1:H.cell? (aD B 1)=some (.slice I ces.length l):=M.c rfl;have p2:H.cell? (aD B4 0)=some (.string L.1):=v.c rfl;have p3:H.cell? (aD B4 1)=some (.string L.2.1):=v.c rfl;have p4:H.cell? (aD B4 2)=some (iV L.2.2):=v.c rfl;have AH:Hid (∀w1,Bl H w1->w1.cell? (aD B 0)=some (iV k)/\w1.cell? (aD B 1)=some (.slice I ces.length l)/\w1.cell? (aD B4 0)=some (.string L.1)/\w1.cell? (aD B4 1)=some (.string L.2.1)/\w1.cell? (aD B4 2)=some (iV L.2.2)):=fun w1 o=>by
   refine⟨?_,?_,?_,?_,?_⟩
   ·rw[(M.of (o.block _ M.lt)).cell];rfl
   ·rw[(M.of (o.block _ M.lt)).cell];rfl
   ·rw[(v.of (o.block _ v.lt)).cell];rfl
   ·rw[(v.of (o.block _ v.lt)).cell];rfl
   ·rw[(v.of (o.block _ v.lt)).cell];rfl
  have V:B4≠m.ga:=by have:=R.v.aq.arr.lt;omega
  have B8:=aA av;have UJ:=aA lz;have Qw:=aA (nf.below X);have QT:=aA M;have Md:=aA v;have Qe:=aA Jk;have PT:=aA (aI OV (aI hL VK));clear xg xh lz nf GK v M av X Jk OV hL VK;go_wp2;go_region_held3 (fun W=>W.cell? (aD S 1)=some (sL m.ga 0 m.ns.length (m.ns.length+m.nj.length))/\W.cell? (aD B 0)=some (iV k)/\W.cell? (aD B 1)=some (.slice I ces.length l)/\W.cell? (aD B4 0)=some (.string L.1)/\W.cell? (aD B4 1)=some (.string L.2.1)/\W.cell? (aD B4 2)=some (iV L.2.2)) (first | assumption | go_keep | exact⟨C,D,xt,C9,KH,Gq⟩ | exact⟨cB Em C,cB yy D,cB yy xt,cB V C9,cB V KH,cB V Gq⟩) ((go_at_call 91;refine r9.out.mono ?_;rintro r w5 ⟨⟨y,rfl,Dv,Ad⟩,gi,C,k0,k1,iN,ie,jw,ix⟩;obtain⟨D,xt,C9,KH,Gq⟩:=AH.out w5 gi));rw[dM Dv];obtain⟨⟨n,lr,Pm⟩,U⟩:=B8.out.store (q:=q) gi (by omega) Ad;have FY:=B8.out.di Qw.out U;have ru:IsC (set2 w5 m.ga q y) B #[iV k,.slice I ces.length l] 96:=QT.out.ae U yy;have Nl:IsC (set2 w5 m.ga q y) B4 #[.string L.1,.string L.2.1,iV L.2.2] 130:=Md.out.ae U V;have hl6:(setN E q (k,insE ces 0 L)).c.length=g.c.length:=FJ;have RK:B≠n.ga:=by rw[Pm.ga];exact yy
  have NY:S≠n.ga:=by rw[Pm.ga];exact Em
  have B9:=aA (lr.bo (i:=c) FY G9 (by omega) k (b:=f) (by omega));have t6:=lr.cells.2.1;have p6:(set2 w5 m.ga q y).cell? (aD B 0)=some (iV k):=ru.c rfl;have Yg:(f:Int) <(n.ns.length:Int):=by have:=lr.v.ln;omega
  have UT:=aA U;have Pd:=aA lr;have JF:=aA ru;have QR:=aA Nl;obtain⟨w6,so⟩:=eZ (set2 w5 m.ga q y);rw[so]at Pd B9 UT t6 p6 JF QR;rw[so];have Aj:Hid (∀w1,Bl w6 w1->w1.cell? (aD B 0)=some (iV k)):=fun w1 o=>by rw[(JF.out.of (o.block _ JF.out.lt)).cell];rfl
  clear C D xt C9 KH Gq iN ie jw ix Ad U lr FY ru Nl r9 AH so;go_wp2;go_region_held3 (fun W=>W.cell? (aD S 1)=some (sL n.ga 0 n.ns.length (n.ns.length+n.nj.length))/\W.cell? (aD B 0)=some (iV k)) (first | assumption | go_keep | exact⟨C,D⟩ | exact⟨cB NY C,cB RK D⟩) ((go_at_call 78;refine B9.out.mono ?_;rintro r Q ⟨⟨z,rfl,Bv,Hx⟩,xw,C,k0,k1,iN,ie,jw,ix⟩;have D:=Aj.out Q xw));rw[dM Bv];obtain⟨⟨F,o9,U0⟩,AN⟩:=Pd.out.store (q:=f) xw (by omega) Hx;have Jj:Frm (fun k=>k=m.ga) H (set2 Q n.ga f z):=UT.out.trans (AN.wide fun k _ e=>e.trans Pm.ga);have Jm:Frm (fun k=>k=A.ga) w (set2 Q n.ga f z):=Qe.out.trans (Jj.wide fun k _ e=>e.trans CB.ga);have Oo:=IA.out _ Jm;have Nm:IsC (set2 Q n.ga f z) B4 #[.string L.1,.string L.2.1,iV L.2.2] 130:=Md.out.ae Jj V;have r0:(set2 Q n.ga f z).cell? (aD B4 0)=some (.string L.1):=Nm.c rfl;have AJ:=aA (eY _ es i (L.1,.empty,(q:Int)) (set2 Q n.ga f z) Oo GC (by omega));have hl8:(setN (setN E q (k,insE ces 0 L)) f (k,delE ses c)).c.length=g.c.length:=FJ;have Rs:S≠F.ga:=by rw[U0.ga];exact NY
  have YV:(b:Int) <(F.ns.length:Int):=by have:=o9.v.ln;omega
  have Qg:=aA Jm;have Wq:Hid (SaS A F):=(CB.trans Pm).trans U0;have XY:=aA o9;have DN:=aA N;generalize set2 Q n.ga f z=w8 at *;clear C D iN ie jw ix Hx AN o9 Oo B9 Aj Jj Jm N Nm;go_wp2_with fail;refine AJ.out.mono ?_;rintro r w9 ⟨u,rfl,hu,fi⟩;have rh:=XY.out.below fi;have t9:=rh.cells.2.1;have Fe:(es.set i (L.1,.empty,(q:Int))).length=es.length:=List.length_set ..;obtain⟨gu,ou,cu',rfl,Y9,E4⟩:=eG hu.sl (by omega);obtain⟨g0',_,_⟩:=E4 w9 j rfl (by omega);have WC:((es.set i (L.1,.empty,(q:Int))).getD j e0).1=ky es j:=by rw[bF _ _ _ _ _ GC,if_neg (by omega)];rfl
  rw[WC]at g0';have DO:=aA (rh.dk (i:=j) (ky es j,.empty,(f:Int)) hu.sl (by omega) (by omega) 2 (b:=b) (by omega));have XZ:=aA rh;have G1:gu≠F.ga:=by
   rcases hu.sl with⟨q,_⟩ | ⟨g',o',K,xs,q,P,_⟩
   ·cases q
   ·cases q;exact P.ab rh.v.aq.arr (by decide)
  have Xg:Hid (∀w1,Bl w9 w1->w1.cell? (aD gu (ou+j*3))=some (.string (ky es j))):=fun w1 o=>(o.cell (p:=aD gu _) Y9).trans g0';rw[Fe]at DO;rw[Fe];have HUL:=aA Fe;clear rh hu E4 WC Fe;go_wp2;go_region_held3 (fun W=>W.cell? (aD S 1)=some (sL F.ga 0 F.ns.length (F.ns.length+F.nj.length))/\W.cell? (aD gu (ou+j*3))=some (.string (ky es j))) (first | assumption | go_keep | exact⟨C,D⟩ | exact⟨cB Rs C,cB G1 D⟩) ((go_at_call 76;refine DO.out.mono ?_;rintro r w10 ⟨⟨x,rfl,Ac,BW⟩,we,C,k0,k1,iN,ie,jw,ix⟩;have D:=Xg.out w10 we));rw[dM Ac];obtain⟨m1,m2,m3⟩:=PT.out;have iu:delE ses c=ses.take c:=by unfold delE;rw[List.drop_of_length_le (by omega),List.append_nil]
  have jr:insE ces 0 L=ses.drop c++ces:=by
   unfold insE;have hx:ses.drop (c+1)=[]:=List.drop_of_length_le (by omega);have:ses[c]=L:=by rw[<-m2,gD,gE G9];rfl
   rw[List.drop_eq_getElem_cons G9,hx,this];rfl
  have VA:Fin (setN (setN E q (k,insE ces 0 L)) f (k,delE ses c)) (moveF g' b f q k (ses.take (ses.length-1)) (ses.drop (ses.length-1)++ces) ((es.set i (ky ses (ses.length-1),.empty,(q:Int))).set j (ky es j,.empty,(f:Int)))) b (2,(es.set i (L.1,.empty,(q:Int))).set j (ky es j,.empty,(f:Int))):=by
   rw[m1,jr,iu,m3];refine⟨fun x d' hx=>?_,O.len,O.r,O.next,O.gen,O.m⟩;generalize (es.set i (L.1,.empty,(q:Int))).set j (ky es j,.empty,(f:Int))=pes at *;have G:upd (upd (upd g'.n f (some (k,ses.take c))) q (some (k,ses.drop c++ces))) b (some (2,pes)) x=some d':=hx;show upd (upd (upd E.n q (some (k,ses.drop c++ces))) f (some (k,ses.take c))) b (some (2,pes)) x=some d'
   by_cases T:x=b
   ·rw[T,aE]at G |-;exact G
   ·rw[aC _ _ T]at G |-
    by_cases e2:x=f
    ·rw[e2,aC _ _ (Ne.symm Hf),aE]at G
     rw[e2,aE];exact G
    ·rw[aC _ _ e2]
     by_cases e3:x=q
     ·rw[e3,aE]at G |-;exact G
     ·rw[aC _ _ e3,aC _ _ e2]at G
      rw[aC _ _ e3];have:=O.sub x d' G;have e:(setN E b (2,es.set j (ky es j,.empty,(f:Int)))).n x=E.n x:=aC _ _ T;rw[e]at this;exact this
  have HR:Hid (Zt w S A (moveF g' b f q k (ses.take (ses.length-1)) (ses.drop (ses.length-1)++ces) ((es.set i (ky ses (ses.length-1),.empty,(q:Int))).set j (ky es j,.empty,(f:Int)))) (set2 w10 F.ga b x)):=Zt.trans (Qg.out.trans (Frm.aa fi)) Wq.out (XZ.out.fin we (by omega) BW VA);clear C D iN ie jw ix VA jr iu m1 m2 m3;go_wp2;go_ret;rw[DN.out];exact⟨fun q=>(by cases q),fun g2 q2=>(by simp only[Option.map_some,sJ]at q2;subst q2;exact⟨rfl,HR.out⟩)⟩
theorem zS(c:Wk g t H){P:List Nat}{lo hi:OB}(p:aO g t H P b (h+1) lo hi)(s:VE g)(D:g.r.length<=16)(d:g.n b=some (2,es))(m:i<es.length)(h2:2<=es.length)(hc:g.n (kd es i)=some (k,ces))(C:cu g (kd es i)=1)(B:ces.length=2)(w:World)(S:Nat)(A:SA)(v:Sp w S A g):
  Calls Tryz.prog 77 #[pT S 0,iV b,iV i] w (ZpP w S A (if i+1<es.length then fillNext g b i (kd es i)else fillLast g b i (kd es i))):=by
 by_cases f:i+1<es.length
 ·rw[if_pos f]
  obtain⟨a,l,z,n,x,o⟩:=c.cj p d m f (by omega) hc C;have u:Wd g b es i (i+1) k ces a:=⟨c.ic,s,D,fun _ _ q=>c.ai q,d,m,f,hc,l,n,x,o,B,z⟩;by_cases e:a.length=2
  ·rw[sA d hc l e]
   refine(oK u e w S A v).mono ?_;rintro r w' ⟨rfl,y⟩;exact⟨fun q=>(by cases q),fun g' q=>(by cases q;exact⟨rfl,y⟩)⟩
  ·rw[uQ c.ic s d f hc l n o (by omega)]
   exact pP u (by omega) w S A v
 ·rw[if_neg f]
  obtain⟨j,rfl⟩:∃j,i=j+1:=⟨i-1,by omega⟩;obtain⟨a,l,z,n,x,o⟩:=c.cj p d m (show j<es.length by omega) (by omega) hc C;have u:Wd g b es (j+1) j k ces a:=⟨c.ic,s,D,fun _ _ q=>c.ai q,d,m,by omega,hc,l,n,x,o,B,z⟩;by_cases e:a.length=2
  ·rw[rZ c.ic s d m hc l e]
   refine(oJ u f e w S A v).mono ?_;rintro r w' ⟨rfl,y⟩;exact⟨fun q=>(by cases q),fun g' q=>(by cases q;exact⟨rfl,y⟩)⟩
  ·rw[uP c.ic s d m hc l n o (by omega)]
   exact pO u f (by omega) w S A v
structure DeR(w:World)(S:Nat)(A:SA)(t:Nat)(key:ByteArray)(RM:Option fZ)(h:Nat)(c:Value)(wr:World):Prop where
 ex:∃(H:Nat) (f:fZ) (P:List Nat) (b:Nat) (lo hi:OB) (A':SA),c=iV b/\Wk f t H/\aO f t H P b h lo hi/\(P≠[]->3<=sz f.n b)/\cJ f t H/\Mem f.n h b key/\VE f/\f.r.length<=16/\Sp wr S A' f/\SaS A A'/\RM=delAt h f t b key
 ae:Frm (fun k=>k=A.ga\/k=A.gr) w wr
theorem Sp.chain{w w1:World}{A A1:SA}(hF:Frm (fun k=>k=A.ga\/k=A.gr) w w1)(a:SaS A A1){w2:World}(h2:Frm (fun k=>k=A1.ga) w1 w2):Frm (fun k=>k=A.ga\/k=A.gr) w w2:=hF.trans (h2.wide fun k _ e=>.inl (e.trans a.ga))
theorem aCS(a:f.n b=some (2,es))(key:ByteArray):stepDel f b key=match shadow f (.ai b (bL es key))with
  | none=>none
  | some (g,c)=>if 2 <(Fo.look g c).2.length then some (g,c)else if bL es key+1 <(Fo.look g b).2.length then(fillNext g b (bL es key) c).map fun k=>(k,c)else(fillLast g b (bL es key) c).map fun k=>(k,c):=by
 unfold stepDel;rw[aF a];rfl
theorem aBQ(q:stepDel f b key=none):delAt (h+1) f t b key=none:=by
 unfold delAt;rw[q]
theorem aIR{c:Nat}(x:Nat)(d:Nd)(h:(fallF g t b c).n x=some d):g.n x=some d:=by
 have a:upd g.n b none x=some d:=h;by_cases e:x=b
 ·rw[e,aE]at a;cases a
 ·rw[aC _ _ e]at a;exact a
theorem zU(h:1<=(Fo.look g b).2.length):∃d,g.n b=some d/\Fo.look g b=d:=by
 cases e:g.n b with
 | none=>unfold Fo.look at h;rw[e]at h;simp at h
 | some d=>exact⟨d,rfl,aF e⟩
theorem xC(n:Wk f t H)(T:VE f)(kz:f.r.length<=16)(ei:cJ f t H)(hm:Mem f.n H (aB f t) key)(w:World)(S:Nat)(A:SA)(v:Sp w S A f):
  Calls Tryz.prog 52 #[pT S 0,iV t,.string key] w (ZqP w S A (bX f t H key)):=by
 have mq:=gW;have Gr:=jA;have ht:=n.tl;have hE:=fun b' d' (gy:f.n b'=some d')=>(by have:=n.ai gy;omega:d'.2.length<=10);obtain⟨_,s1,s2,_⟩:=v.cells;obtain⟨r0,r1⟩:=v.v.root ht;have h0:0<=(f.r.getD t (0,0)).2:=(n.ic.rb _ (aQ ht)).1;have fy:(f.r.getD t (0,0)).2=(aB f t:Int):=by unfold aB;omega
 rw[fy]at r1;have Tv:(t:Int) <(f.r.length:Int):=by omega
 have xo:=aA (mM n.ic hE w S A v kz t ht);have D:Hid (bX f t H key=match shadow f (.root t)with
  | none=>none
  | some (g,r)=>delAt H g t r key):=rfl
 generalize bX f t H key=B at *;clear hE fy h0 r0;go_enter Tryz.func52,Tryz.ntmps52;go_wp2_with fail;refine xo.out.mono ?_;intro r w1 L;obtain⟨iq,xg,xh⟩:=L;cases s:shadow f (.root t)with
 | none=>
  obtain rfl:=xg s;have HP:Hid (B=none):=by show B=none;rw[D.out];rw[s]
  clear xg xh s;go_wp2;go_ret;rw[HP.out];exact⟨iq.wide fun _ _ e=>.inl e,fun _=>rfl,fun g q=>by cases q⟩
 | some gc=>
  obtain⟨g,r⟩:=gc;obtain⟨rfl,A1,J,bw,DP,Aa,qh,qe,Dm,EE,OW,Cg⟩:=xh g r s;obtain⟨wk1,p1,a1,a2,a3,a4,a5,a6⟩:=n.ak s;have MC:=T.ak s;have WF:=(n.bd s key H).1 hm;rw[s]at D;simp only at D;have BU:t<J.r.length:=by rw[Aa];exact ht
  obtain⟨ay,dz⟩:=bw.bm BU r;have Y:Sp (w1.setCell (aD A1.gr (t*2+1)) (iV r)) S A1 g:=ay.sub qe Dm qh EE OW Cg;obtain⟨_,t1,t2,_⟩:=bw.cells;obtain⟨_,z1⟩:=bw.v.root BU;have z2:=bw.v.bp.frozen (t*2+1);have N:Frm (fun k=>k=A.ga\/k=A.gr) w (w1.setCell (aD A1.gr (t*2+1)) (iV r)):=(iq.wide fun _ _ e=>.inl e).trans (dz.wide fun _ _ e=>.inr (e.trans DP.gr));obtain⟨w2,de⟩:=eZ (w1.setCell (aD A1.gr (t*2+1)) (iV r));rw[de]at Y N;have Tu:(t:Int) <(J.r.length:Int):=by omega
  have MR:¬((r:Int)<0):=by omega
  have Bz:g.r.length<=16:=by rw[a6.len];exact kz
  have HD:Hid (DeR w S A t key B H (iV r) w2):=⟨⟨H,g,[],r,none,none,A1,rfl,wk1,p1,fun q=>absurd rfl q,a5 ei,WF,MC,Bz,Y,DP,D.out⟩,N⟩;obtain⟨m,yo,G⟩:=mA (DeR w S A t key B);have Fi:=aA yo;have Fj:=aA G;clear xg xh s iq dz N bw ay Y Aa qh qe Dm EE OW Cg DP xo a1 a2 a3 a4 a5 a6 wk1 p1 MC WF Bz yo G D v n T hm ei;go_wp2;clear de;go_loopw [7,8,9,10] (fun c _ _ _ wr=>∃h,DeR w S A t key B h c wr) (fun c _ _ _ wr=>m c wr)
  case atStart=>exact⟨H,HD.out⟩
  case round=>
   clear HD;obtain⟨h0,NR⟩:=hrel;have hR:=Fi.out _ _ _ NR;obtain⟨hh,ZB⟩:=eZ (m u7 wr);rw[ZB]at hR;clear NR;obtain⟨⟨H1,J,P1,b,lo,hi,A1,rfl,n,p,h3,ei,hm,T,kz,v,hA,Va⟩,hF⟩:=hR;have D:=aA Va;have HF:=aA hF;have HA:=aA hA;obtain⟨_,s1,_⟩:=v.cells;have ym:S≠A1.ga:=v.box.ab v.v.aq.arr (by decide);clear Va hF hA;cases hh with
   | zero=>
    obtain⟨es,af,hn,hc⟩:=p.leaf n;obtain⟨es',q1,j0,Cd,iN⟩:=hm;rw[af]at q1;cases q1;have ah:=n.ai af;simp only at ah;have d5:=n.ic.lt af;obtain⟨a,cp,ef,y9,_,c0,c1,_⟩:=v.v.aq.at af;simp only at ef c0 c1;obtain⟨g0,o0,cc,Q,vj,aa⟩:=eG ef (by omega);cases Q;have Fz:(b:Int) <(A1.ns.length:Int):=by omega
    have X:Hid (B=some (setN J b (1,delE es (cLt es key)))):=by
     show B=_
     rw[D.out];unfold delAt;rw[aF af]
    have B9:=aA fun(i:Nat) (hi:i<es.length)=>v.bo (i:=i) ef hi (by omega) 1 d5;have HS:=aA v;have XI:=aA iN;clear ef n p T v D ei h3;go_wp2;go_loopw [12] (fun i wx=>∃j:Nat,j<=j0/\i=iV j/\Is2 (.bool false) (.bool false) wx wr/\Hid (∀x,x<j->ky es x≠key)) (fun i _=>es.length -(intOf i).toNat)
    case atStart=>exact⟨0,by omega,rfl,⟨rfl,rfl⟩,fun x hx=>by omega⟩
    case round=>
     obtain⟨j,hj,rfl,⟨_,hwx⟩,ba⟩:=hrel;subst hwx;have ai:j<es.length:=by omega
     obtain⟨x0,_,_⟩:=aa wr j rfl ai;have eX:(j:Int) <(es.length:Int):=by omega
     have HK:Hid (ky es j=(es.getD j e0).1):=rfl;clear aa;generalize (es.getD j e0).1=x at *;by_cases Q:x=key
     ·have hq:(x.toList == key.toList)=true:=by rw[Q];exact beq_self_eq_true _
      have HC:Hid (cLt es key=j):=(jW hn.a6 ai (HK.out.trans Q)).2;have Mf:=aA (B9.out j ai);clear Q B9;go_wp2;go_region_held3 (fun W=>W.cell? (aD S 1)=some (sL A1.ga 0 A1.ns.length (A1.ns.length+A1.nj.length))) (first | assumption | go_keep | exact cB ym dh) ((go_at_call 78;refine Mf.out.mono ?_;rintro r E ⟨⟨y,rfl,Dv,Ad⟩,bg,dh,k0,k1,iN,ie,jw,ix⟩));rw[dM Dv];obtain⟨⟨A4,av,JW⟩,kj⟩:=HS.out.store bg d5 Ad;have HR:Hid (ZqP w S A B (.returned (.bool true)) (set2 E A1.ga b y)):=by
       show ZqP _ _ _ _ _ _
       rw[X.out,HC.out];refine⟨Sp.chain HF.out HA.out kj,fun q=>(by cases q),fun o q2=>?_⟩;cases q2;exact⟨rfl,A4,av,HA.out.trans JW⟩
      clear dh iN ie jw ix av kj;go_wp2;go_ret;exact HR.out
     ·have hq:(x.toList == key.toList)=false:=by rw[beq_eq_false_iff_ne];exact fun e=>Q (gV e)
      have S5:j<j0:=by
       rcases Nat.lt_or_eq_of_le hj with q | q
       ·exact q
       ·exfalso;apply Q;rw[<-HK.out,q];exact XI.out
      have MZ:Hid (∀z,z<j+1->ky es z≠key):=fun z L=>by
       by_cases e:z=j
       ·rw[e,HK.out];exact Q
       ·exact ba.out z (by omega)
      clear Q B9;go_wp2;go_roundw
      case rel=>exact⟨j+1,by omega,by go_num,⟨rfl,rfl⟩,MZ.out⟩
      case measure=>simp[intOf];omega
   | succ h=>
    obtain⟨l,P,AC,mi⟩:=p.inner n;have TB:l.length<=5:=n.ai P;have d5:=n.ic.lt P;have EY:=fun b' d' (gy:J.n b'=some d')=>(by have:=n.ai gy;omega:d'.2.length<=10);have RA:=Wk.two p ei h3 P;obtain⟨a,vc,kw,y9,_,c0,c1,_⟩:=v.v.aq.at P;simp only at kw c0 c1;have JH:=aA (sH AC.a6 key);have fg:=eJ key mi;obtain⟨v1,_⟩:=T.inner n.ic P fg;obtain⟨K,o1,cc1,DE,lw,wi⟩:=eG kw (by omega);cases DE;have Ca:=vP (sL K o1 l.length vc) l key wr kw (by omega);rw[JH.out]at Ca;have M:=aA (aCS P key);have US:=aA fun(g:fZ) (c:Nat) (q:stepDel J b key=some (g,c))=>n.cw p ei h3 hm q;have AI:Hid (stepDel J b key=none->delAt (h+1) J t b key=none):=aBQ;generalize bL l key=i at *;obtain⟨x0,x1,x2⟩:=wi wr i rfl fg;rw[v1]at x0 x1 x2;have S0:(i:Int) <(l.length:Int):=by omega
    have Fz:(b:Int) <(A1.ns.length:Int):=by omega
    have xo:=aA (iD n.ic EY T wr S A1 v kz b i l P fg);clear wi v1;go_wp2_with fail;refine Ca.mono ?_;rintro r w2 ⟨rfl,rfl⟩;go_wp2_with fail;refine xo.out.mono ?_;intro r E L;obtain⟨N,xg,xh⟩:=L;cases s:shadow J (.ai b i)with
    | none=>
     obtain rfl:=xg s;have HP:Hid (B=none):=by
      show B=none
      rw[D.out];exact AI.out (by rw[M.out,s])
     clear xg xh s;go_wp2;go_ret;rw[HP.out];exact⟨Sp.chain HF.out HA.out N,fun _=>rfl,fun g q=>by cases q⟩
    | some gc=>
     obtain⟨g,c⟩:=gc;obtain⟨rfl,A3,f3,Y,CB,Bp,bj⟩:=xh g c s;obtain⟨C,p2,p3,⟨es2,m1,m2,m3,m4⟩,m5,m6,m7,_,m9⟩:=n.aj p P fg s;have ul:=T.aj n.ic P fg s;rw[s]at M;simp only at M;obtain⟨es',zt⟩:=eZ (l.set i (ky l i,.empty,(c:Int)));rw[zt]at bj;have G:g.n b=some (2,es'):=by
      have:=bj.sub b _ m1
      have e:(setN f3 b (2,es')).n b=some (2,es'):=aE _ _ _;rw[e]at this;rw[m1];exact this.symm
     have G2:kd es' i=c:=by rw[m1]at G;cases G;exact m4
     obtain⟨⟨k,O⟩,j8⟩:=C.ic.live (x:=c) (by rw[m6];omega);have ap:=C.ai j8;have zq:=C.ai G;simp only at ap zq;have zi:2<=O.length:=by
      have:=(p3.ok C.ok).2 (by simp);unfold sz at this;rw[j8]at this;exact this
     have Az:b<f3.c.length:=by rw[Bp];exact d5
     have nf:yE.Sl E (sL K o1 l.length vc) l:=kw.ae N fun g cs hg=>hg.ab v.v.aq.arr (by decide);obtain⟨y0,y1,y2⟩:E.cell? (aD K (o1+i*3))=some (.string (ky l i))/\E.cell? (aD K (o1+i*3+1))=some (.string .empty)/\E.cell? (aD K (o1+i*3+2))=some (iV (kd l i)):=by
      have au:K≠A1.ga:=by
       rcases kw with⟨q,_⟩ | ⟨g',o',cap',xs,q,q1,_⟩
       ·cases q
       ·cases q;exact q1.ab v.v.aq.arr (by decide)
      have hw:∀k,E.cell? (aD K k)=w2.cell? (aD K k):=fun k=>by simp[World.cell?,N.block K lw au]
      exact⟨(hw _).trans x0,(hw _).trans x1,(hw _).trans x2⟩
     have JQ:Hid (Calls Tryz.prog 76 #[sL K o1 l.length vc,iV i,.agg #[.string (ky l i),.string .empty,iV c]] E fun r w'=>∃u,r=.returned u/\yE.Own E.heap.size w' u es'/\Bl E w'):=by
      rw[<-zt];exact eY _ l i (ky l i,ByteArray.empty,(c:Int)) E nf fg (by omega)
     have AS:¬((c:Int)<0):=by omega
     have JJ:Hid (Frm (fun k=>k=A.ga\/k=A.gr) w E):=Sp.chain HF.out HA.out N;have MY:Hid (SaS A A3):=HA.out.trans CB;have Bz:Hid (g.r.length<=16):=by show g.r.length<=16;rw[m9.len];exact kz
     have Lx:Hid (es'.length=l.length):=by show es'.length=_;rw[<-zt,List.length_set]
     clear xg xh kw v zt m1 m2 m3 m4 m5 m7 m9 EY Ca xo N CB Bp x0 x1 x2 nf hm n p T ei h3;go_wp2_with fail;refine JQ.out.mono ?_;rintro r w4 ⟨u,rfl,hu,it⟩;obtain⟨x,rfl,Ac,BW⟩:=hu.nv 2;have av:=Y.below it;obtain⟨k0,k1,iN,ie,jw,ix,R6⟩:=av.wr Az;obtain⟨_,t1',_⟩:=av.cells;obtain⟨⟨A5,cy,Ap⟩,ez⟩:=Y.fin it Az BW bj;have vb:Hid (Frm (fun k=>k=A.ga\/k=A.gr) w (set2 w4 A3.ga b x)):=Sp.chain JJ.out MY.out ez;have H2:Hid (SaS A A5):=MY.out.trans Ap;have tu:=dM (w:=w4) (g:=A3.ga) (q:=b) Ac;obtain⟨w5,O8⟩:=eZ (set2 w4 A3.ga b x);rw[O8]at cy vb tu;have JU:=aA cy;obtain⟨_,t5,_⟩:=cy.cells;obtain⟨ac,cpc,gp,Kd,_,d0,d1,E7⟩:=cy.v.aq.at j8;simp only at gp d0 d1 E7;have Gu:(c:Int) <(A5.ns.length:Int):=by omega
     clear av it ez Ap BW hu Y O8 cy;go_upto_if 89 with fail
     clear tu;rw[aF j8,aF G]at M;simp only at M;by_cases mr:O.length=2
     ·have vi:((O.length:Int) == 2)=true:=by rw[mr];rfl
      rw[if_neg (by omega)]at M;have GD:i<es'.length:=by rw[Lx.out];exact fg
      have Pz:=zS C p2 ul Bz.out G GD (by rw[Lx.out];exact RA) (by rw[G2];exact j8) (by rw[G2];exact m6) mr w5 S A5 JU.out;rw[G2]at Pz;obtain⟨FW,Ps⟩:=eZ ((if i+1<es'.length then fillNext g b i c else fillLast g b i c));rw[Ps]at Pz;have Vc:stepDel J b key=FW.map fun k=>(k,c):=by
       rw[M.out,<-Ps];split<;>rfl
      have YH:∀o,FW=some o->VE o:=fun o q=>by
       rw[<-Ps]at q;split at q
       ·rename_i hn
        exact ul.fillNext C.ic G hn q
       ·rename_i hn
        have:=RA
        exact ul.fillLast C.ic G GD (by have:=Lx.out;omega) q
      have Xd:=aA Pz;rw[vi];clear mr vi gp Pz M Ps G2;go_wp2_with fail;refine Xd.out.mono ?_;intro e w6 L;cases FW with
      | none=>
       obtain⟨rfl,DT⟩:=L.no rfl;have HP:Hid (B=none):=by
        show B=none
        rw[D.out];exact AI.out (by rw[Vc];rfl)
       clear L;go_wp2;go_ret;rw[HP.out];exact⟨Sp.chain vb.out H2.out DT,fun _=>rfl,fun g q=>by cases q⟩
      | some o=>
       obtain⟨rfl,⟨⟨V,U,ES⟩,xr⟩⟩:=L.yes o rfl;obtain⟨mw,fw⟩:=US.out o c Vc;have Vm:=YH o rfl;have H4:Hid (Frm (fun k=>k=A.ga\/k=A.gr) w w6):=Sp.chain vb.out H2.out xr;have Dx:Hid (SaS A V):=H2.out.trans ES;have VZ:o.r.length<=16:=by rw[mw.len];exact kz
       have ed:1<=(Fo.look o b).2.length:=by rcases fw with⟨I,_⟩ | ⟨I,_⟩<;>omega
       obtain⟨d7,Yn,ig⟩:=zU ed;rw[ig]at fw ed;obtain⟨_,t7,t72,_⟩:=U.cells;obtain⟨a7,cp7,_,YT,_,_,e17,_⟩:=U.v.aq.at Yn;have Nk:(b:Int) <(V.ns.length:Int):=by omega
       rcases fw with⟨I,e2,R,P',lo',hi',Z,e5,e6,e7⟩ | ⟨I,e2,R,Z,H',e5,e6,e7,e8⟩
       ·have F:DeR w S A t key B h (iV c) w6:=⟨⟨H1,o,P',c,lo',hi',V,rfl,R,Z,e5,e6,e7,Vm,VZ,U,Dx.out,D.out.trans e2⟩,H4.out⟩
        have X:=aA F;have h1:=Fj.out _ _ _ F;have mi:((d7.2.length:Int) == 1)=false:=by rw[beq_eq_false_iff_ne];omega
        clear L F I e2 R Z e5 e6 e7 U xr;go_wp2;go_roundw
        case rel=>exact⟨h,X.out⟩
        case measure=>((try simp only[iV,aD]at *);omega)
       ·obtain⟨o9,AN⟩:=U.bm R c
        have rh:Sp (w6.setCell (aD V.gr (t*2+1)) (iV c)) S V (fallF o t b c):=o9.sub (fun x d hx=>(show o.n x=some d from aIR (g:=o) (t:=t) (b:=b) (c:=c) x d hx)) (by simp[fallF,setL,freeB]) rfl rfl rfl rfl;have YD:(fallF o t b c).r.length<=16:=by
         have:(fallF o t b c).r.length=o.r.length:=(aZ.fallF ..).len
         rw[this];exact VZ
        have F:DeR w S A t key B h (iV c) (w6.setCell (aD V.gr (t*2+1)) (iV c)):=⟨⟨H',fallF o t b c,[],c,none,none,V,rfl,e5,e6,fun q=>absurd rfl q,e7,e8,Vm.fallF t b c,YD,rh,Dx.out,D.out.trans Z⟩,H4.out.trans (AN.wide fun k _ e=>.inr (e.trans Dx.out.gr))⟩;have X:=aA F;have h1:=Fj.out _ _ _ F;have mi:((d7.2.length:Int) == 1)=true:=by rw[I];rfl
        obtain⟨_,z1'⟩:=U.v.root R;have z2':=U.v.bp.frozen (t*2+1);have Zz:(t:Int) <(o.r.length:Int):=by omega
        clear L F I e2 R Z e5 e6 e7 e8 U xr o9 rh AN;go_wp2;go_roundw
        case rel=>exact⟨h,X.out⟩
        case measure=>((try simp only[iV,aD]at *);omega)
     ·have vi:((O.length:Int) == 2)=false:=by rw[beq_eq_false_iff_ne];omega
      rw[if_pos (by omega)]at M;obtain⟨mw,fw⟩:=US.out g c M.out;have F:DeR w S A t key B h (iV c) w5:=by
       rcases fw with⟨I,e2,R,P',lo',hi',Z,e5,e6,e7⟩ | ⟨I,_⟩
       ·exact⟨⟨H1,g,P',c,lo',hi',A5,rfl,R,Z,e5,e6,e7,ul,Bz.out,JU.out,H2.out,D.out.trans e2⟩,vb.out⟩
       ·exfalso;rw[aF G]at I;have:=Lx.out;simp only at I;omega
      have X:=aA F;have h1:=Fj.out _ _ _ F;rw[vi];clear mr vi gp F fw mw;go_wp2;go_roundw
      case rel=>exact⟨h,X.out⟩
      case measure=>((try simp only[iV,aD]at *);omega)
def plZ(f:fZ)(tree:Int):Int:=match atT f tree with
 | none=>-1
 | some t=>t
theorem aEU(ht:t<f.r.length)(h:∀x,x<t->rid f x≠tree)(he:rid f t=tree):atT f tree=some t:=by
 unfold atT;rw[List.find?_range_eq_some];exact⟨by simpa using he,by simpa using ht,fun x a=>by have:=h x a;simpa using this⟩
theorem yC(h:∀x,x<f.r.length->rid f x≠tree):atT f tree=none:=by
 unfold atT;rw[List.find?_eq_none];intro x a;have:=h x (List.mem_range.1 a);simpa using this
theorem lG(w:World)(S:Nat)(A:SA)(h:Sp w S A f)(q:f.r.length<=100)(tree:Int):
  Calls Tryz.prog 46 #[pT S 0,iV tree] w fun r w'=>r=.returned (iV (plZ f tree))/\w'=w:=by
 obtain⟨_,_,s,_⟩:=h.cells;go_enter Tryz.func46,Tryz.ntmps46;go_wp2;go_loopw [5] (fun i wr=>∃k:Nat,k<=f.r.length/\i=iV k/\Is2 (.bool false) (.bool false) wr w/\Hid (∀x,x<k->rid f x≠tree)) (fun i _=>f.r.length -(intOf i).toNat)
 case atStart=>exact⟨0,by omega,rfl,⟨rfl,rfl⟩,fun x n=>by omega⟩
 case round=>
  obtain⟨k,m,rfl,⟨_,l⟩,b⟩:=hrel;subst l;by_cases d:k<f.r.length
  ·obtain⟨r0,_⟩:=h.v.root d
   have p:(k:Int) <(f.r.length:Int):=by omega
   have c:Hid (rid f k=(f.r.getD k (0,0)).1):=rfl;generalize (f.r.getD k (0,0)).1=x at *;cases g:(x == tree)with
   | true=>
    have a:Hid (plZ f tree=(k:Int)):=by
     show plZ f tree=_
     unfold plZ;rw[aEU d b.out (c.out.trans (by simpa using g))]
    go_wp2
    go_ret
    exact⟨by rw[a.out];rfl,rfl⟩
   | false=>
    have j:Hid (∀z,z<k+1->rid f z≠tree):=fun z o=>by
     by_cases e:z=k
     ·rw[e,c.out];simpa using g
     ·exact b.out z (by omega)
    go_wp2
    go_roundw
    case rel=>exact⟨k+1,by omega,by go_num,⟨rfl,rfl⟩,j.out⟩
    case measure=>simp[intOf];omega
  ·obtain rfl:k=f.r.length:=by omega
   have a:Hid (plZ f tree=-1):=by
    show plZ f tree=_
    unfold plZ;rw[yC b.out]
   go_wp2
   go_ret
   exact⟨by rw[a.out];rfl,rfl⟩
theorem qB(v:Value)(c:List Int)(w:World)(m:y64.Sl w v c)(z:c.length<=512)(j:0<c.length):
  Calls Tryz.prog 67 #[v] w fun r w'=>r=.returned (iV (iU c c.length))/\w'=w:=by
 obtain⟨g,o,t,rfl,u,_,d⟩:=nI m j;have b:∀k,iU c k<=k:=by
  intro k;induction k with
  | zero=>exact nR _
  | succ k ih=>unfold iU;split<;>omega
 go_enter Tryz.func67,Tryz.ntmps67
 go_wp2
 go_loopw [3,4] (fun n i wr=>∃k:Nat,k<=c.length/\i=iV k/\Is2 n (iV (iU c k)) wr w) (fun _ i _=>c.length -(intOf i).toNat)
 case atStart=>exact⟨0,by omega,rfl,⟨rfl,rfl⟩⟩
 case round=>
  obtain⟨k,y,rfl,⟨l,q⟩⟩:=hrel;subst q;subst l;by_cases h:k<c.length
  ·have B:=d wr k rfl h
   have A:(k:Int) <(c.length:Int):=by omega
   have a:Hid (iU c (k+1)=iU c k+if 0<c.getD k 0 then 1 else 0):=rfl;have s:=b k;clear d b;generalize c.getD k 0=x at *;generalize iU c k=f at *;have p:IntKind.i64.wrap ((f:Int)+1)=((f+1:Nat):Int):=(IntWalk.i64_in _ ⟨by omega,by omega⟩).trans (by omega);by_cases e:0<x
   ·rw[if_pos e]at a
    go_wp2
    go_roundw
    case rel=>exact⟨k+1,by omega,by go_num,⟨by rw[a.out];first | rfl | go_num,rfl⟩⟩
    case measure=>simp[intOf];omega
   ·rw[if_neg e]at a
    go_wp2
    go_roundw
    case rel=>exact⟨k+1,by omega,by go_num,⟨by rw[a.out];rfl,rfl⟩⟩
    case measure=>simp[intOf];omega
  ·obtain rfl:k=c.length:=by omega
   clear d b;go_wp2;go_ret;exact⟨rfl,rfl⟩
