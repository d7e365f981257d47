import Derived.Test.YtmpagpeenjddgaaGreatSq8
import Derived.Test.YtmpagpeenjddgaaGreatFo39
import Derived.Test.YtmpagpeenjddgaaGreatHq28
set_option maxHeartbeats 9999999
set_option maxRecDepth 99999
set_option linter.all false
namespace Go.Proofs.YtmpagpeenjddgaaGreat
open Go.RowKit Fo
variable{key:ByteArray}{k tree:Int}{ces es ses:List E3}{H b h i j t:Nat}{f g:fZ}
theorem oJ(h:Wd g b es (j+1) j k ces ses)(PT:¬j+1+1<es.length)(h2:ses.length=2)(w:World)(S:Nat)(A:SA)(c:Sp w S A g):
  Calls Tryz.prog 77 #[.pointer (some ⟨S,0,none⟩),.int .i64 b,.int .i64 ((j+1:Nat):Int)] w fun e w'=>e=.returned (.bool true)/\Zt w S A (mergeF g b (kd es (j+1)) (kd es j) k (ses++ces) (delE (es.set (j+1) (ky es j,.empty,(kd es (j+1):Int))) j)) w':=by
 have sv:=gY;have GX:=jC;obtain⟨i,iu⟩:=eZ (j+1);rw[iu]at h PT |-;have y7:=h.ai b _ h.hb;simp only at y7;have eX:=h.ic.lt h.hb;have L:=h.ic.lt h.hc;obtain⟨v0,_⟩:=h.ve.inner h.ic h.hb h.hi;obtain⟨v1,_⟩:=h.ve.inner h.ic h.hb h.hj;obtain⟨_,s1,_⟩:=c.cells;obtain⟨a,cp,I,yq,_,_,c1,_⟩:=c.v.aq.at h.hb;obtain⟨F,f,gk,Fg,_,d0,d1,_⟩:=c.v.aq.at h.hc;obtain⟨m,o,Z,S1,_,_,e1,_⟩:=c.v.aq.at h.hs;simp only at I c1 gk d0 d1 Z e1;obtain⟨g0,o0,cc,he,uv,G⟩:=eG I (by have:=h.hi;omega);cases he;obtain⟨_,_,x2⟩:=G w i rfl h.hi;have aw:g0≠A.ga:=by
  rcases I with⟨q,_⟩ | ⟨g',o',cap',xs,q,q1,_⟩
  ·cases q
  ·cases q;exact q1.ab c.v.aq.arr (by decide)
 rw[v0]at x2;obtain⟨B,hB⟩:=eZ (w.heap.size);obtain⟨w0,mw⟩:=eZ (w.alloc (.cells #[.int .i64 k,.slice F ces.length f] 96));have v:=bAl mw;have n:=iNw mw hB;obtain⟨y0,_,y2⟩:=G w0 j (v.block _ uv) h.hj;rw[v1]at y0 y2;have D:=c.below v;obtain⟨_,t1,_⟩:=D.cells;have C:w0.cell? ⟨A.ga,kd es j*2+1,none⟩=some (.slice m ses.length o):=(v.cell (p:=⟨A.ga,_,none⟩) c.v.aq.arr.lt).trans e1;have b0:w0.cell? ⟨B,0,none⟩=some (.int .i64 k):=n.c rfl;have b1:w0.cell? ⟨B,1,none⟩=some (.slice F ces.length f):=n.c rfl;have xt:S≠A.ga:=c.box.ab c.v.aq.arr (by decide);have AV:B≠A.ga:=by have:=c.v.aq.arr.lt;omega
 have Fe:(b:Int) <(A.ns.length:Int):=by omega
 have GZ:(kd es i:Int) <(A.ns.length:Int):=by omega
 have Gu:(kd es j:Int) <(A.ns.length:Int):=by omega
 have Kf:(i:Int) <(es.length:Int):=by have:=h.hi;omega
 have Fk:=h.hi;have CK:=h.hj;obtain⟨i2,AK⟩:=eZ (i+1);have yc:IntKind.i64.wrap ((i:Int)+1)=(i2:Int):=(IntWalk.i64_in _ ⟨by omega,by omega⟩).trans (by omega);have Y4:IntKind.i64.wrap ((i:Int)-1)=(j:Int):=(IntWalk.i64_in _ ⟨by omega,by omega⟩).trans (by omega);have R8:¬((i2:Int) <(es.length:Int)):=by omega
 have Ki:(j:Int) <(es.length:Int):=by omega
 have lw:((ses.length:Int) == 2)=true:=by rw[h2];rfl
 have K:=aA (D.cy (Z.below v) (gk.below v) (by omega) (by have:=h.c2;omega) k L);have zy:=aA fun(w1:World) (hF:Frm (fun k=>k=A.ga) w w1)=>eU _ es i (ky es j,.empty,(kd es i:Int)) w1 (c.dg I hF) h.hi (by omega);have vg:=aA fun(w1:World) (hF:Frm (fun k=>k=A.ga) w w1)=>(G w1 j (hF.block g0 uv aw) h.hj).1;have ni:=aA D;have F0:=aA v;have Q:Hid (kd es j≠kd es i):=h.cs.symm;have zw:Hid (∀w1,Bl w0 w1->w1.cell? ⟨B,0,none⟩=some (.int .i64 k)/\w1.cell? ⟨B,1,none⟩=some (.slice F ces.length f)/\w1.cell? ⟨A.ga,kd es j*2+1,none⟩=some (.slice m ses.length o)):=fun w1 R=>by
  refine⟨?_,?_,?_⟩
  ·rw[(n.of (R.block _ n.lt)).cell];rfl
  ·rw[(n.of (R.block _ n.lt)).cell];rfl
  ·exact(R.cell (p:=⟨A.ga,_,none⟩) D.v.aq.arr.lt).trans C
 obtain⟨q,T⟩:=eZ (kd es i);obtain⟨s,U⟩:=eZ (kd es j);rw[T]at x2 d0 d1 GZ K Q L zy;rw[U]at y2 C Gu Q zw;rw[T,U];clear G gk Z n D v0 v1 T U AK h2 iu;go_enter Tryz.func77,Tryz.ntmps77;go_wp2;go_region_held3 (fun W=>W.cell? ⟨S,1,none⟩=some (.slice (some ⟨A.ga,0,none⟩) A.ns.length (A.ns.length+A.nj.length))/\W.cell? ⟨B,0,none⟩=some (.int .i64 k)/\W.cell? ⟨B,1,none⟩=some (.slice F ces.length f)/\W.cell? ⟨A.ga,s*2+1,none⟩=some (.slice m ses.length o)) (first | assumption | go_keep | exact⟨t,O,xh,J⟩ | exact⟨bY xt t,bY AV O,bY AV xh,aMT Q.out J⟩) ((go_at_call 90;refine K.out.mono ?_;rintro r w1 ⟨⟨y,rfl,Df,AO⟩,au,t,k0,k1,P,N,Y,X⟩;obtain⟨O,xh,J⟩:=zw.out w1 au));rw[dM Df];obtain⟨⟨l,M,Dl⟩,d8⟩:=ni.out.store au L AO;have E:Frm (fun k=>k=A.ga) w (set2 w1 A.ga q y):=(Frm.aa F0.out).trans d8;have C4:=aA (zy.out _ E);have yk:(set2 w1 A.ga q y).cell? ⟨g0,o0+j*3,none⟩=some (.string (ky es j)):=vg.out _ E;have sj:=aA E;have pq:=aA M;have JZ:S≠l.ga:=by rw[Dl.ga];exact xt
 have RE:(b:Int) <(l.ns.length:Int):=by have:=M.v.ln;have:l.ns.length=g.c.length:=this;omega
 have yh:Hid (Fin (setN g q (k,ses++ces)) (mergeF g b q s k (ses++ces) (delE (es.set i (ky es j,.empty,(q:Int))) j)) b (2,delE (es.set i (ky es j,.empty,(q:Int))) j)):=⟨fun x d hx=>tB x d hx,(aX.mergeF ..).c,qD ..,(aX.mergeF ..).next,(aX.mergeF ..).gen,(aX.mergeF ..).m⟩;generalize set2 w1 A.ga q y=w2 at *;clear t O xh J P N Y X AO d8 E M zy zw K vg;go_wp2_with fail;refine C4.out.mono ?_;rintro r w4 ⟨u,rfl,V,fw⟩;obtain⟨ua,uc,rfl⟩:=V.sl.len;have H:=pq.out.below fw;have t4:=H.cells.2.1;have Iz:=aA (H.bm (i:=j) V.sl (by simp;omega) (by simp;omega) 2 (show b<g.c.length from eX));have D9:=aA H;simp only[List.length_set]at *;clear H V;go_wp2;go_region_held3 (fun W=>W.cell? ⟨S,1,none⟩=some (.slice (some ⟨l.ga,0,none⟩) l.ns.length (l.ns.length+l.nj.length))) (first | assumption | go_keep | exact bY JZ t) ((go_at_call 78;refine Iz.out.mono ?_;rintro r w3 ⟨⟨z,rfl,BX,G5⟩,bu,t,k0,k1,P,N,Y,X⟩));rw[dM BX];have HR:Hid (Zt w S A (mergeF g b q s k (ses++ces) (delE (es.set i (ky es j,.empty,(q:Int))) j)) (set2 w3 l.ga b z)):=Zt.trans (sj.out.trans (Frm.aa fw)) Dl (D9.out.fin bu (show b<g.c.length from eX) G5 yh.out);clear t P N Y X;go_wp2;go_ret;exact⟨rfl,HR.out⟩
theorem pO(h:Wd g b es i (i+1) k ces ses)(h2:2<ses.length)(w:World)(S:Nat)(A:SA)(n:Sp w S A g):
  Calls Tryz.prog 77 #[.pointer (some ⟨S,0,none⟩),.int .i64 b,.int .i64 i] w (ZpP w S A ((shadow g (.ai b (i+1))).map fun p=>moveF p.1 b (kd es i) p.2 k (ces++ses.take 1) (ses.drop 1) (es.set (i+1) (ky ses 1,.empty,(p.2:Int))))):=by
 have sv:=gY;have GX:=jC;have y7:=h.ai b _ h.hb;simp only at y7;have eX:=h.ic.lt h.hb;have av:=h.ic.lt h.hc;obtain⟨v0,_⟩:=h.ve.inner h.ic h.hb h.hi;obtain⟨v1,_⟩:=h.ve.inner h.ic h.hb h.hj;obtain⟨_,s1,_⟩:=n.cells;obtain⟨a,cp,ee,yq,_,_,c1,_⟩:=n.v.aq.at h.hb;obtain⟨E,f,gk,Fg,_,d0,d1,_⟩:=n.v.aq.at h.hc;obtain⟨T,V,td,S1,_,_,O,_⟩:=n.v.aq.at h.hs;simp only at ee c1 gk d0 d1 td O;obtain⟨g0,o0,cc,he,uv,af⟩:=eG ee (by have:=h.hi;omega);cases he;obtain⟨_,_,x2⟩:=af w i rfl h.hi;have aw:g0≠A.ga:=by
  rcases ee with⟨q,_⟩ | ⟨g',o',U,xs,q,q1,_⟩
  ·cases q
  ·cases q;exact q1.ab n.v.aq.arr (by decide)
 rw[v0]at x2;obtain⟨B,hB⟩:=eZ (w.heap.size);obtain⟨w0,mw⟩:=eZ (w.alloc (.cells #[.int .i64 k,.slice E ces.length f] 96));have ie:=bAl mw;have F:=iNw mw hB;obtain⟨_,_,y2⟩:=af w0 (i+1) (ie.block _ uv) h.hj;rw[v1]at y2;have kw:=n.below ie;obtain⟨_,t1,_⟩:=kw.cells;have J:w0.cell? ⟨A.ga,kd es (i+1)*2+1,none⟩=some (.slice T ses.length V):=(ie.cell (p:=⟨A.ga,_,none⟩) n.v.aq.arr.lt).trans O;have b0:w0.cell? ⟨B,0,none⟩=some (.int .i64 k):=F.c rfl;have b1:w0.cell? ⟨B,1,none⟩=some (.slice E ces.length f):=F.c rfl;have xt:S≠A.ga:=n.box.ab n.v.aq.arr (by decide);have AV:B≠A.ga:=by have:=n.v.aq.arr.lt;omega
 have Fe:(b:Int) <(A.ns.length:Int):=by omega
 have GZ:(kd es i:Int) <(A.ns.length:Int):=by omega
 have Gu:(kd es (i+1):Int) <(A.ns.length:Int):=by omega
 have Kf:(i:Int) <(es.length:Int):=by have:=h.hi;omega
 obtain⟨j,Y⟩:=eZ (i+1);have yc:IntKind.i64.wrap ((i:Int)+1)=(j:Int):=(IntWalk.i64_in _ ⟨by omega,by omega⟩).trans (by omega);have R7:(j:Int) <(es.length:Int):=by have:=h.hj;omega
 have lw:((ses.length:Int) == 2)=false:=by rw[beq_eq_false_iff_ne];omega
 have Db:=h.ai _ _ h.hs;simp only at Db;have Fu:=fun g' c (q:shadow g (.ai b (i+1))=some (g',c))=>dF h.ic h.ve h.hb h.hj h.hs q;have zx:=aA (iH h.ic (fun b d hd=>(by have:=h.ai b d hd;omega:d.2.length<=10)) h.ve w0 S A kw h.bq b (i+1) es h.hb h.hj);have BG:=aA fun(w1:World) (hF:Frm (fun k=>k=A.ga) w w1)=>n.dg ee hF;have Iw:=aA fun(w1:World) (hF:Frm (fun k=>k=A.ga) w w1)=>n.dg gk hF;have ni:=aA kw;have F0:=aA ie;have hX:Hid (kd es (i+1)≠kd es i):=h.cs.symm;have zw:Hid (∀w1,Bl w0 w1->w1.cell? ⟨B,0,none⟩=some (.int .i64 k)/\w1.cell? ⟨B,1,none⟩=some (.slice E ces.length f)/\w1.cell? ⟨A.ga,kd es (i+1)*2+1,none⟩=some (.slice T ses.length V)):=fun w1 C=>by
  refine⟨?_,?_,?_⟩
  ·rw[(F.of (C.block _ F.lt)).cell];rfl
  ·rw[(F.of (C.block _ F.lt)).cell];rfl
  ·exact(C.cell (p:=⟨A.ga,_,none⟩) kw.v.aq.arr.lt).trans J
 rw[Y]at y2 J Gu hX zx Fu;rw[Y];obtain⟨q,hq⟩:=eZ (kd es i);obtain⟨s,hs⟩:=eZ (kd es j);have PO:=h.hs;have ID:=h.hc;have Ak:=h.cs;have o9:=h.bc;rw[Y]at PO Ak;rw[hq]at x2 d0 d1 GZ hX av ID Ak o9;rw[hs]at y2 J Gu hX zx PO Ak Fu;rw[hq];have V2:Hid (j<es.length):=by show j<_;rw[<-Y];exact h.hj
 have FM:=aA F;clear af gk td F kw v0 v1 hq hs Y zw;go_enter Tryz.func77,Tryz.ntmps77;go_wp2_with fail;refine zx.out.mono ?_;intro r M hz;obtain⟨br,we,wg⟩:=hz;cases H:shadow g (.ai b j)with
 | none=>
  obtain rfl:=we H;have C3:=aA H;clear we wg H;go_wp2;go_ret;rw[C3.out];exact⟨fun _=>⟨rfl,(Frm.aa F0.out).trans br⟩,fun g q=>by cases q⟩
 | some gc=>
  obtain⟨g',c⟩:=gc;obtain⟨rfl,l,v,N,Bg,BT,I⟩:=wg g' c H;obtain⟨n1,n2,n3,n4,n5,n6⟩:=Fu g' c H;have Gq:q≠c:=n4 q _ ID Ak;have Lm:v.n c=some (k,ses):=by
   have:=I.sub c _ n1
   have e:(setN v b (2,es.set j (ky es j,.empty,(c:Int)))).n c=v.n c:=aC _ _ n2;rw[e]at this;exact this
  have GJ:Frm (fun k=>k=A.ga) w M:=(Frm.aa F0.out).trans br;have E1:v.c.length=g.c.length:=BT;obtain⟨_,t3,_⟩:=N.cells;obtain⟨as3,G,Q,S2,_,_,f1,Ga⟩:=N.v.aq.at Lm;simp only at Q f1 Ga;obtain⟨K,os,cs3',Ge,CJ,ig⟩:=eG Q (by omega);cases Ge;have Kd:K≠l.ga:=by
   rcases Q with⟨q,_⟩ | ⟨g',o',U,xs,q,q1,_⟩
   ·cases q
   ·cases q;exact q1.ab N.v.aq.arr (by decide)
  have yj:B≠l.ga:=by rw[Bg.ga];exact AV
  have L:IsC M B #[.int .i64 k,.slice E ces.length f] 96:=FM.out.ae br AV;have EV:S≠l.ga:=by rw[Bg.ga];exact xt
  have Eo:(1:Int)<=(G:Int):=by omega
  have AH:¬((c:Int)<0):=by omega
  have RR:(c:Int) <(l.ns.length:Int):=by omega
  have Sr:(q:Int) <(l.ns.length:Int):=by have:=N.v.ln;omega
  have HJ:=aA (N.cy (Iw.out M GJ) (Q.takeN 1 (by omega) G) (by have:=h.c2;omega) (by simp;omega) k (b:=q) (by omega));have p0:M.cell? ⟨B,0,none⟩=some (.int .i64 k):=L.c rfl;have p1:M.cell? ⟨B,1,none⟩=some (.slice E ces.length f):=L.c rfl;have zw:Hid (∀w1,Bl M w1->w1.cell? ⟨B,0,none⟩=some (.int .i64 k)/\w1.cell? ⟨B,1,none⟩=some (.slice E ces.length f)):=fun w1 C=>by
   refine⟨?_,?_⟩
   ·rw[(L.of (C.block _ L.lt)).cell];rfl
   ·rw[(L.of (C.block _ L.lt)).cell];rfl
  have Tu:=aA N;have TY:=aA ig;have QF:=aA Q;have Pp:=aA L;clear we wg ig Q Fu;go_wp2;go_region_held3 (fun W=>W.cell? ⟨S,1,none⟩=some (.slice (some ⟨l.ga,0,none⟩) l.ns.length (l.ns.length+l.nj.length))/\W.cell? ⟨B,0,none⟩=some (.int .i64 k)/\W.cell? ⟨B,1,none⟩=some (.slice E ces.length f)) (first | assumption | go_keep | exact⟨o,t,xh⟩ | exact⟨bY EV o,bY yj t,bY yj xh⟩) ((go_at_call 90;refine HJ.out.mono ?_;rintro r w4 ⟨⟨y,rfl,Df,AO⟩,fw,o,k0,k1,gz,Z,jq,im⟩;obtain⟨t,xh⟩:=zw.out w4 fw));rw[dM Df];obtain⟨⟨m,X,xe⟩,eu⟩:=Tu.out.store (q:=q) fw (by omega) AO;have FA:=Tu.out.dg QF.out eu;have sw:IsC (set2 w4 l.ga q y) B #[.int .i64 k,.slice E ces.length f] 96:=Pp.out.ae eu yj;have IF:(setN v q (k,ces++ses.take 1)).c.length=g.c.length:=E1;have Qa:B≠m.ga:=by rw[xe.ga];exact yj
  have M1:S≠m.ga:=by rw[xe.ga];exact EV
  have Be:=aA (X.bm (i:=0) FA (by omega) (by omega) k (b:=c) (by omega));have t5:=X.cells.2.1;have p5:(set2 w4 l.ga q y).cell? ⟨B,0,none⟩=some (.int .i64 k):=sw.c rfl;have Xg:(c:Int) <(m.ns.length:Int):=by have:=X.v.ln;omega
  have um:=aA eu;have Cc:=aA X;have QH:=aA FA;have Ik:=aA sw;obtain⟨w5,tg⟩:=eZ (set2 w4 l.ga q y);rw[tg]at Cc QH Be um t5 p5 Ik;rw[tg];have Dk:Hid (∀w1,Bl w5 w1->w1.cell? ⟨B,0,none⟩=some (.int .i64 k)):=fun w1 C=>by rw[(Ik.out.of (C.block _ Ik.out.lt)).cell];rfl
  clear o t xh gz Z jq im AO eu X FA sw HJ zw tg;go_wp2;go_region_held3 (fun W=>W.cell? ⟨S,1,none⟩=some (.slice (some ⟨m.ga,0,none⟩) m.ns.length (m.ns.length+m.nj.length))/\W.cell? ⟨B,0,none⟩=some (.int .i64 k)) (first | assumption | go_keep | exact⟨o,t⟩ | exact⟨bY M1 o,bY Qa t⟩) ((go_at_call 78;refine Be.out.mono ?_;rintro r R ⟨⟨z,rfl,BX,G5⟩,kh,o,k0,k1,gz,Z,jq,im⟩;have t:=Dk.out R kh));rw[dM BX];obtain⟨⟨D,P,EC⟩,xg⟩:=Cc.out.store (q:=c) kh (by omega) G5;have Rd:delE ses 0=ses.drop 1:=by simp[delE]
  rw[Rd]at P;have Bm:Frm (fun k=>k=l.ga) M (set2 R m.ga c z):=um.out.trans (xg.wide fun k _ e=>e.trans xe.ga);have JL:Frm (fun k=>k=A.ga) w (set2 R m.ga c z):=GJ.trans (Bm.wide fun k _ e=>e.trans Bg.ga);have FC:=BG.out _ JL;obtain⟨z0,_,_⟩:=TY.out (set2 R m.ga c z) 1 (Bm.block K CJ Kd) (by omega);have SK:(ses.getD 1 e0).1=ky ses 1:=rfl;rw[SK,Nat.one_mul]at z0;have Lr:(setN (setN v q (k,ces++ses.take 1)) c (k,ses.drop 1)).c.length=g.c.length:=E1;have EW:S≠D.ga:=by rw[EC.ga];exact M1
  have t7:=P.cells.2.1;have NC:(b:Int) <(D.ns.length:Int):=by have:=P.v.ln;omega
  have Yn:(1:Int) <(ses.length:Int):=by omega
  have zy:=aA (P.dh (i:=j) (ky ses 1,.empty,(c:Int)) FC V2.out (by omega) 2 (b:=b) (by omega));have yh:Hid (Fin (setN (setN v q (k,ces++ses.take 1)) c (k,ses.drop 1)) (moveF g' b q c k (ces++ses.take 1) (ses.drop 1) (es.set j (ky ses 1,.empty,(c:Int)))) b (2,es.set j (ky ses 1,.empty,(c:Int)))):=by
   refine⟨fun x d' hx=>?_,I.len,I.r,I.next,I.gen,I.m⟩;have u:upd (upd (upd g'.n q (some (k,ces++ses.take 1))) c (some (k,ses.drop 1))) b (some (2,es.set j (ky ses 1,.empty,(c:Int)))) x=some d':=hx;show upd (upd (upd v.n q (some (k,ces++ses.take 1))) c (some (k,ses.drop 1))) b (some (2,es.set j (ky ses 1,.empty,(c:Int)))) x=some d'
   by_cases O:x=b
   ·rw[O,aD]at u |-;exact u
   ·rw[aC _ _ O]at u |-
    by_cases e2:x=c
    ·rw[e2,aD]at u |-;exact u
    ·rw[aC _ _ e2]at u |-
     by_cases e3:x=q
     ·rw[e3,aD]at u |-;exact u
     ·rw[aC _ _ e3]at u |-
      have:=I.sub x d' u
      have e:(setN v b (2,es.set j (ky es j,.empty,(c:Int)))).n x=v.n x:=aC _ _ O;rw[e]at this;exact this
  have P2:=aA JL;have Dh:Hid (SaS A D):=(Bg.trans xe).trans EC;have WO:=aA P;have C3:=aA H;have R2:K≠D.ga:=by rw[EC.ga,xe.ga];exact Kd
  have Ni:K <(set2 R m.ga c z).heap.size:=lL CJ Bm.size;generalize set2 R m.ga c z=w7 at *;have WX:Hid (∀w1,Bl w7 w1->w1.cell? ⟨K,os+3,none⟩=some (.string (ky ses 1))):=fun w1 C=>(C.cell (p:=⟨K,_,none⟩) Ni).trans z0;clear o t gz Z jq im G5 xg P FC Be Dk Bm JL H;go_wp2;go_region_held3 (fun W=>W.cell? ⟨S,1,none⟩=some (.slice (some ⟨D.ga,0,none⟩) D.ns.length (D.ns.length+D.nj.length))/\W.cell? ⟨K,os+3,none⟩=some (.string (ky ses 1))) (first | assumption | go_keep | exact⟨o,t⟩ | exact⟨bY EW o,bY R2 t⟩) ((go_at_call 76;refine zy.out.mono ?_;rintro r w8 ⟨⟨x,rfl,wv,BB⟩,o8,o,k0,k1,gz,Z,jq,im⟩;have t:=WX.out w8 o8));rw[dM wv];have HR:Hid (Zt w S A (moveF g' b q c k (ces++ses.take 1) (ses.drop 1) (es.set j (ky ses 1,.empty,(c:Int)))) (set2 w8 D.ga b x)):=Zt.trans P2.out Dh.out (WO.out.fin o8 (by omega) BB yh.out);clear o t gz Z jq im;go_wp2;go_ret;rw[C3.out];exact⟨fun q=>(by cases q),fun g2 q2=>(by simp only[Option.map_some,sJ]at q2;subst q2;exact⟨rfl,HR.out⟩)⟩
theorem pN(h:Wd g b es (j+1) j k ces ses)(PT:¬j+1+1<es.length)(h2:2<ses.length)(w:World)(S:Nat)(A:SA)(t:Sp w S A g):
  Calls Tryz.prog 77 #[.pointer (some ⟨S,0,none⟩),.int .i64 b,.int .i64 ((j+1:Nat):Int)] w (ZpP w S A ((shadow g (.ai b j)).map fun p=>moveF p.1 b p.2 (kd es (j+1)) k (ses.take (ses.length-1)) (ses.drop (ses.length-1)++ces) ((es.set (j+1) (ky ses (ses.length-1),.empty,(kd es (j+1):Int))).set j (ky es j,.empty,(p.2:Int))))):=by
 have sv:=gY;have GX:=jC;obtain⟨i,iu⟩:=eZ (j+1);rw[iu]at h PT |-;have y7:=h.ai b _ h.hb;simp only at y7;have eX:=h.ic.lt h.hb;have av:=h.ic.lt h.hc;obtain⟨v0,_⟩:=h.ve.inner h.ic h.hb h.hi;obtain⟨v1,_⟩:=h.ve.inner h.ic h.hb h.hj;obtain⟨_,s1,_⟩:=t.cells;obtain⟨a,cp,ee,yq,_,_,c1,_⟩:=t.v.aq.at h.hb;obtain⟨I,l,gk,Fg,_,d0,d1,_⟩:=t.v.aq.at h.hc;obtain⟨X,Y,td,S1,_,_,T,_⟩:=t.v.aq.at h.hs;simp only at ee c1 gk d0 d1 td T;obtain⟨g0,o0,cc,he,uv,af⟩:=eG ee (by have:=h.hi;omega);cases he;obtain⟨_,_,x2⟩:=af w i rfl h.hi;have aw:g0≠A.ga:=by
  rcases ee with⟨q,_⟩ | ⟨g',o',K,xs,q,P,_⟩
  ·cases q
  ·cases q;exact P.ab t.v.aq.arr (by decide)
 rw[v0]at x2;obtain⟨B,hB⟩:=eZ (w.heap.size);obtain⟨w0,mw⟩:=eZ (w.alloc (.cells #[.int .i64 k,.slice I ces.length l] 96));have ie:=bAl mw;have J:=iNw mw hB;obtain⟨_,_,y2⟩:=af w0 j (ie.block _ uv) h.hj;rw[v1]at y2;have kw:=t.below ie;obtain⟨_,t1,_⟩:=kw.cells;have e10:w0.cell? ⟨A.ga,kd es j*2+1,none⟩=some (.slice X ses.length Y):=(ie.cell (p:=⟨A.ga,_,none⟩) t.v.aq.arr.lt).trans T;have b0:w0.cell? ⟨B,0,none⟩=some (.int .i64 k):=J.c rfl;have b1:w0.cell? ⟨B,1,none⟩=some (.slice I ces.length l):=J.c rfl;have xt:S≠A.ga:=t.box.ab t.v.aq.arr (by decide);have AV:B≠A.ga:=by have:=t.v.aq.arr.lt;omega
 have Fe:(b:Int) <(A.ns.length:Int):=by omega
 have GZ:(kd es i:Int) <(A.ns.length:Int):=by omega
 have Gu:(kd es j:Int) <(A.ns.length:Int):=by omega
 have Kf:(i:Int) <(es.length:Int):=by have:=h.hi;omega
 have Fk:=h.hi;have CK:=h.hj;obtain⟨i2,AK⟩:=eZ (i+1);have yc:IntKind.i64.wrap ((i:Int)+1)=(i2:Int):=(IntWalk.i64_in _ ⟨by omega,by omega⟩).trans (by omega);have Y4:IntKind.i64.wrap ((i:Int)-1)=(j:Int):=(IntWalk.i64_in _ ⟨by omega,by omega⟩).trans (by omega);have R8:¬((i2:Int) <(es.length:Int)):=by omega
 have Ki:(j:Int) <(es.length:Int):=by omega
 have lw:((ses.length:Int) == 2)=false:=by rw[beq_eq_false_iff_ne];omega
 have Db:=h.ai _ _ h.hs;simp only at Db;have Fu:=fun g' f (q:shadow g (.ai b j)=some (g',f))=>dF h.ic h.ve h.hb h.hj h.hs q;have zx:=aA (iH h.ic (fun b d hd=>(by have:=h.ai b d hd;omega:d.2.length<=10)) h.ve w0 S A kw h.bq b j es h.hb h.hj);have BG:=aA fun(w1:World) (hF:Frm (fun k=>k=A.ga) w w1)=>t.dg ee hF;have Iw:=aA fun(w1:World) (hF:Frm (fun k=>k=A.ga) w w1)=>t.dg gk hF;have ni:=aA kw;have F0:=aA ie;have hX:Hid (kd es j≠kd es i):=h.cs.symm;have zw:Hid (∀w1,Bl w0 w1->w1.cell? ⟨B,0,none⟩=some (.int .i64 k)/\w1.cell? ⟨B,1,none⟩=some (.slice I ces.length l)/\w1.cell? ⟨A.ga,kd es j*2+1,none⟩=some (.slice X ses.length Y)):=fun w1 o=>by
  refine⟨?_,?_,?_⟩
  ·rw[(J.of (o.block _ J.lt)).cell];rfl
  ·rw[(J.of (o.block _ J.lt)).cell];rfl
  ·exact(o.cell (p:=⟨A.ga,_,none⟩) kw.v.aq.arr.lt).trans e10
 obtain⟨q,hq⟩:=eZ (kd es i);obtain⟨s,hs⟩:=eZ (kd es j);have PO:=h.hs;have ID:=h.hc;have Ak:=h.cs;have o9:=h.bc;rw[hq]at x2 d0 d1 GZ hX av ID Ak o9;rw[hs]at y2 e10 Gu hX zx PO Ak Fu;rw[hq];have FM:=aA J;clear af gk td J kw v0 v1 hq hs AK zw;go_enter Tryz.func77,Tryz.ntmps77;go_wp2_with fail;refine zx.out.mono ?_;intro r w3 hz;obtain⟨br,we,wg⟩:=hz;cases N:shadow g (.ai b j)with
 | none=>
  obtain rfl:=we N;have C3:=aA N;clear we wg N;go_wp2;go_ret;rw[C3.out];exact⟨fun _=>⟨rfl,(Frm.aa F0.out).trans br⟩,fun g q=>by cases q⟩
 | some gc=>
  obtain⟨g',f⟩:=gc;obtain⟨rfl,m,E,R,Bg,BT,O⟩:=wg g' f N;obtain⟨n1,n2,n3,n4,n5,n6⟩:=Fu g' f N;have Gq:q≠f:=n4 q _ ID Ak;have Lm:E.n f=some (k,ses):=by
   have:=O.sub f _ n1
   have e:(setN E b (2,es.set j (ky es j,.empty,(f:Int)))).n f=E.n f:=aC _ _ n2;rw[e]at this;exact this
  have GJ:Frm (fun k=>k=A.ga) w w3:=(Frm.aa F0.out).trans br;have E1:E.c.length=g.c.length:=BT;obtain⟨_,t3,_⟩:=R.cells;obtain⟨as3,Z,mu,S2,_,_,f1,Ga⟩:=R.v.aq.at Lm;simp only at mu f1 Ga;obtain⟨gs,os,cs3',Ge,CJ,ig⟩:=eG mu (by omega);cases Ge;have Kd:gs≠m.ga:=by
   rcases mu with⟨q,_⟩ | ⟨g',o',K,xs,q,P,_⟩
   ·cases q
   ·cases q;exact P.ab R.v.aq.arr (by decide)
  have yj:B≠m.ga:=by rw[Bg.ga];exact AV
  have ld:IsC w3 B #[.int .i64 k,.slice I ces.length l] 96:=FM.out.ae br AV;have EV:S≠m.ga:=by rw[Bg.ga];exact xt
  have Eo:(1:Int)<=(Z:Int):=by omega
  have AH:¬((f:Int)<0):=by omega
  have RR:(f:Int) <(m.ns.length:Int):=by omega
  have Sr:(q:Int) <(m.ns.length:Int):=by have:=R.v.ln;omega
  obtain⟨c,Nw⟩:=eZ (ses.length-1);have OW:IntKind.i64.wrap ((ses.length:Int)-1)=(c:Int):=(IntWalk.i64_in _ ⟨by omega,by omega⟩).trans (by omega);have Sd:(c:Int) <(ses.length:Int):=by omega
  have Gk:c<ses.length:=by omega
  obtain⟨q0,P,q2⟩:=ig w3 c rfl Gk;obtain⟨L,hL⟩:=eZ (ses.getD c e0);rw[hL]at q0 P q2;have UN:ky ses c=L.1:=by unfold ky;rw[hL]
  obtain⟨B4,d5⟩:=eZ (w3.heap.size);obtain⟨H,cx⟩:=eZ (w3.alloc (.cells #[.string L.1,.string L.2.1,.int .i64 L.2.2] 130));have xi:=bAl cx;have v:=iNw cx d5;have ax:=R.below xi;have JK:Frm (fun k=>k=A.ga) w H:=GJ.trans (Frm.aa xi);have M:=ld.of (xi.block _ ld.lt);have rx:=aA (ax.et (i:=0) L (Iw.out H JK) (by omega) (by have:=h.c2;omega) k (b:=q) (by omega));have t4:=ax.cells.2.1;have p0:H.cell? ⟨B,0,none⟩=some (.int .i64 k):=M.c rfl;have p1:H.cell? ⟨B,1,none⟩=some (.slice I ces.length l):=M.c rfl;have p2:H.cell? ⟨B4,0,none⟩=some (.string L.1):=v.c rfl;have p3:H.cell? ⟨B4,1,none⟩=some (.string L.2.1):=v.c rfl;have p4:H.cell? ⟨B4,2,none⟩=some (.int .i64 L.2.2):=v.c rfl;have zw:Hid (∀w1,Bl H w1->w1.cell? ⟨B,0,none⟩=some (.int .i64 k)/\w1.cell? ⟨B,1,none⟩=some (.slice I ces.length l)/\w1.cell? ⟨B4,0,none⟩=some (.string L.1)/\w1.cell? ⟨B4,1,none⟩=some (.string L.2.1)/\w1.cell? ⟨B4,2,none⟩=some (.int .i64 L.2.2)):=fun w1 o=>by
   refine⟨?_,?_,?_,?_,?_⟩
   ·rw[(M.of (o.block _ M.lt)).cell];rfl
   ·rw[(M.of (o.block _ M.lt)).cell];rfl
   ·rw[(v.of (o.block _ v.lt)).cell];rfl
   ·rw[(v.of (o.block _ v.lt)).cell];rfl
   ·rw[(v.of (o.block _ v.lt)).cell];rfl
  have V:B4≠m.ga:=by have:=R.v.aq.arr.lt;omega
  have D9:=aA ax;have TY:=aA ig;have QG:=aA (mu.below xi);have Pq:=aA M;have L5:=aA v;have P0:=aA JK;have Oq:=aA (aI Nw (aI hL UN));clear we wg ig mu Fu v M ax xi JK Nw hL UN;go_wp2;go_region_held3 (fun W=>W.cell? ⟨S,1,none⟩=some (.slice (some ⟨m.ga,0,none⟩) m.ns.length (m.ns.length+m.nj.length))/\W.cell? ⟨B,0,none⟩=some (.int .i64 k)/\W.cell? ⟨B,1,none⟩=some (.slice I ces.length l)/\W.cell? ⟨B4,0,none⟩=some (.string L.1)/\W.cell? ⟨B4,1,none⟩=some (.string L.2.1)/\W.cell? ⟨B4,2,none⟩=some (.int .i64 L.2.2)) (first | assumption | go_keep | exact⟨C,D,xh,Cn,Jj,GV⟩ | exact⟨bY EV C,bY yj D,bY yj xh,bY V Cn,bY V Jj,bY V GV⟩) ((go_at_call 91;refine rx.out.mono ?_;rintro r w5 ⟨⟨y,rfl,Df,AO⟩,ef,C,k0,k1,gz,gh,jq,im⟩;obtain⟨D,xh,Cn,Jj,GV⟩:=zw.out w5 ef));rw[dM Df];obtain⟨⟨n,lp,O6⟩,U⟩:=D9.out.store (q:=q) ef (by omega) AO;have FB:=D9.out.dg QG.out U;have rf:IsC (set2 w5 m.ga q y) B #[.int .i64 k,.slice I ces.length l] 96:=Pq.out.ae U yj;have ND:IsC (set2 w5 m.ga q y) B4 #[.string L.1,.string L.2.1,.int .i64 L.2.2] 130:=L5.out.ae U V;have Zi:(setN E q (k,insE ces 0 L)).c.length=g.c.length:=E1;have Qb:B≠n.ga:=by rw[O6.ga];exact yj
  have M2:S≠n.ga:=by rw[O6.ga];exact EV
  have Be:=aA (lp.bm (i:=c) FB Gk (by omega) k (b:=f) (by omega));have t6:=lp.cells.2.1;have p6:(set2 w5 m.ga q y).cell? ⟨B,0,none⟩=some (.int .i64 k):=rf.c rfl;have Xh:(f:Int) <(n.ns.length:Int):=by have:=lp.v.ln;omega
  have Tf:=aA U;have MJ:=aA lp;have Il:=aA rf;have Po:=aA ND;obtain⟨w6,sg⟩:=eZ (set2 w5 m.ga q y);rw[sg]at MJ Be Tf t6 p6 Il Po;rw[sg];have AS:Hid (∀w1,Bl w6 w1->w1.cell? ⟨B,0,none⟩=some (.int .i64 k)):=fun w1 o=>by rw[(Il.out.of (o.block _ Il.out.lt)).cell];rfl
  clear C D xh Cn Jj GV gz gh jq im AO U lp FB rf ND rx zw sg;go_wp2;go_region_held3 (fun W=>W.cell? ⟨S,1,none⟩=some (.slice (some ⟨n.ga,0,none⟩) n.ns.length (n.ns.length+n.nj.length))/\W.cell? ⟨B,0,none⟩=some (.int .i64 k)) (first | assumption | go_keep | exact⟨C,D⟩ | exact⟨bY M2 C,bY Qb D⟩) ((go_at_call 78;refine Be.out.mono ?_;rintro r Q ⟨⟨z,rfl,BX,G5⟩,wl,C,k0,k1,gz,gh,jq,im⟩;have D:=AS.out Q wl));rw[dM BX];obtain⟨⟨F,oe,T7⟩,AA⟩:=MJ.out.store (q:=f) wl (by omega) G5;have JJ:Frm (fun k=>k=m.ga) H (set2 Q n.ga f z):=Tf.out.trans (AA.wide fun k _ e=>e.trans O6.ga);have JM:Frm (fun k=>k=A.ga) w (set2 Q n.ga f z):=P0.out.trans (JJ.wide fun k _ e=>e.trans Bg.ga);have OG:=BG.out _ JM;have NE:IsC (set2 Q n.ga f z) B4 #[.string L.1,.string L.2.1,.int .i64 L.2.2] 130:=L5.out.ae JJ V;have r0:(set2 Q n.ga f z).cell? ⟨B4,0,none⟩=some (.string L.1):=NE.c rfl;have zy:=aA (eU _ es i (L.1,.empty,(q:Int)) (set2 Q n.ga f z) OG Fk (by omega));have Zj:(setN (setN E q (k,insE ces 0 L)) f (k,delE ses c)).c.length=g.c.length:=E1;have Q3:S≠F.ga:=by rw[T7.ga];exact M2
  have XX:(b:Int) <(F.ns.length:Int):=by have:=oe.v.ln;omega
  have P3:=aA JM;have Vl:Hid (SaS A F):=(Bg.trans O6).trans T7;have WP:=aA oe;have C3:=aA N;generalize set2 Q n.ga f z=w8 at *;clear C D gz gh jq im G5 AA oe OG Be AS JJ JM N NE;go_wp2_with fail;refine zy.out.mono ?_;rintro r w9 ⟨u,rfl,hu,fl⟩;have q7:=WP.out.below fl;have t9:=q7.cells.2.1;have Pa:(es.set i (L.1,.empty,(q:Int))).length=es.length:=List.length_set ..;obtain⟨gu,ou,cu',rfl,X3,En⟩:=eG hu.sl (by omega);obtain⟨g0',_,_⟩:=En w9 j rfl (by omega);have U8:((es.set i (L.1,.empty,(q:Int))).getD j e0).1=ky es j:=by rw[bB _ _ _ _ _ Fk,if_neg (by omega)];rfl
  rw[U8]at g0';have C4:=aA (q7.dh (i:=j) (ky es j,.empty,(f:Int)) hu.sl (by omega) (by omega) 2 (b:=b) (by omega));have WQ:=aA q7;have R3:gu≠F.ga:=by
   rcases hu.sl with⟨q,_⟩ | ⟨g',o',K,xs,q,P,_⟩
   ·cases q
   ·cases q;exact P.ab q7.v.aq.arr (by decide)
  have WY:Hid (∀w1,Bl w9 w1->w1.cell? ⟨gu,ou+j*3,none⟩=some (.string (ky es j))):=fun w1 o=>(o.cell (p:=⟨gu,_,none⟩) X3).trans g0';rw[Pa]at C4;rw[Pa];have ZN:=aA Pa;clear q7 hu En U8 Pa;go_wp2;go_region_held3 (fun W=>W.cell? ⟨S,1,none⟩=some (.slice (some ⟨F.ga,0,none⟩) F.ns.length (F.ns.length+F.nj.length))/\W.cell? ⟨gu,ou+j*3,none⟩=some (.string (ky es j))) (first | assumption | go_keep | exact⟨C,D⟩ | exact⟨bY Q3 C,bY R3 D⟩) ((go_at_call 76;refine C4.out.mono ?_;rintro r w10 ⟨⟨x,rfl,wv,BB⟩,CB,C,k0,k1,gz,gh,jq,im⟩;have D:=WY.out w10 CB));rw[dM wv];obtain⟨m1,m2,m3⟩:=Oq.out;have ik:delE ses c=ses.take c:=by unfold delE;rw[List.drop_of_length_le (by omega),List.append_nil]
  have lk:insE ces 0 L=ses.drop c++ces:=by
   unfold insE;have hx:ses.drop (c+1)=[]:=List.drop_of_length_le (by omega);have:ses[c]=L:=by rw[<-m2,gD,gE Gk];rfl
   rw[List.drop_eq_getElem_cons Gk,hx,this];rfl
  have UG:Fin (setN (setN E q (k,insE ces 0 L)) f (k,delE ses c)) (moveF g' b f q k (ses.take (ses.length-1)) (ses.drop (ses.length-1)++ces) ((es.set i (ky ses (ses.length-1),.empty,(q:Int))).set j (ky es j,.empty,(f:Int)))) b (2,(es.set i (L.1,.empty,(q:Int))).set j (ky es j,.empty,(f:Int))):=by
   rw[m1,lk,ik,m3];refine⟨fun x d' hx=>?_,O.len,O.r,O.next,O.gen,O.m⟩;generalize (es.set i (L.1,.empty,(q:Int))).set j (ky es j,.empty,(f:Int))=pes at *;have G:upd (upd (upd g'.n f (some (k,ses.take c))) q (some (k,ses.drop c++ces))) b (some (2,pes)) x=some d':=hx;show upd (upd (upd E.n q (some (k,ses.drop c++ces))) f (some (k,ses.take c))) b (some (2,pes)) x=some d'
   by_cases T:x=b
   ·rw[T,aD]at G |-;exact G
   ·rw[aC _ _ T]at G |-
    by_cases e2:x=f
    ·rw[e2,aC _ _ (Ne.symm Gq),aD]at G
     rw[e2,aD];exact G
    ·rw[aC _ _ e2]
     by_cases e3:x=q
     ·rw[e3,aD]at G |-;exact G
     ·rw[aC _ _ e3,aC _ _ e2]at G
      rw[aC _ _ e3];have:=O.sub x d' G;have e:(setN E b (2,es.set j (ky es j,.empty,(f:Int)))).n x=E.n x:=aC _ _ T;rw[e]at this;exact this
  have HR:Hid (Zt w S A (moveF g' b f q k (ses.take (ses.length-1)) (ses.drop (ses.length-1)++ces) ((es.set i (ky ses (ses.length-1),.empty,(q:Int))).set j (ky es j,.empty,(f:Int)))) (set2 w10 F.ga b x)):=Zt.trans (P3.out.trans (Frm.aa fl)) Vl.out (WQ.out.fin CB (by omega) BB UG);clear C D gz gh jq im UG lk ik m1 m2 m3;go_wp2;go_ret;rw[C3.out];exact⟨fun q=>(by cases q),fun g2 q2=>(by simp only[Option.map_some,sJ]at q2;subst q2;exact⟨rfl,HR.out⟩)⟩
theorem zT(c:Wk g t H){P:List Nat}{lo hi:OB}(p:aN g t H P b (h+1) lo hi)(s:VE g)(D:g.r.length<=16)(d:g.n b=some (2,es))(m:i<es.length)(h2:2<=es.length)(hc:g.n (kd es i)=some (k,ces))(C:cu g (kd es i)=1)(B:ces.length=2)(w:World)(S:Nat)(A:SA)(v:Sp w S A g):
  Calls Tryz.prog 77 #[.pointer (some ⟨S,0,none⟩),.int .i64 b,.int .i64 i] w (ZpP w S A (if i+1<es.length then fillNext g b i (kd es i)else fillLast g b i (kd es i))):=by
 by_cases f:i+1<es.length
 ·rw[if_pos f]
  obtain⟨a,l,z,n,x,o⟩:=c.cj p d m f (by omega) hc C;have u:Wd g b es i (i+1) k ces a:=⟨c.ic,s,D,fun _ _ q=>c.ai q,d,m,f,hc,l,n,x,o,B,z⟩;by_cases e:a.length=2
  ·rw[rX d hc l e]
   refine(oK u e w S A v).mono ?_;rintro r w' ⟨rfl,y⟩;exact⟨fun q=>(by cases q),fun g' q=>(by cases q;exact⟨rfl,y⟩)⟩
  ·rw[uO c.ic s d f hc l n o (by omega)]
   exact pO u (by omega) w S A v
 ·rw[if_neg f]
  obtain⟨j,rfl⟩:∃j,i=j+1:=⟨i-1,by omega⟩;obtain⟨a,l,z,n,x,o⟩:=c.cj p d m (show j<es.length by omega) (by omega) hc C;have u:Wd g b es (j+1) j k ces a:=⟨c.ic,s,D,fun _ _ q=>c.ai q,d,m,by omega,hc,l,n,x,o,B,z⟩;by_cases e:a.length=2
  ·rw[rW c.ic s d m hc l e]
   refine(oJ u f e w S A v).mono ?_;rintro r w' ⟨rfl,y⟩;exact⟨fun q=>(by cases q),fun g' q=>(by cases q;exact⟨rfl,y⟩)⟩
  ·rw[uN c.ic s d m hc l n o (by omega)]
   exact pN u f (by omega) w S A v
structure DeR(w:World)(S:Nat)(A:SA)(t:Nat)(key:ByteArray)(RM:Option fZ)(h:Nat)(c:Value)(wr:World):Prop where
 ex:∃(H:Nat) (f:fZ) (P:List Nat) (b:Nat) (lo hi:OB) (A':SA),c=.int .i64 b/\Wk f t H/\aN f t H P b h lo hi/\(P≠[]->3<=sz f.n b)/\cI f t H/\Mem f.n h b key/\VE f/\f.r.length<=16/\Sp wr S A' f/\SaS A A'/\RM=delAt h f t b key
 ae:Frm (fun k=>k=A.ga\/k=A.gr) w wr
theorem Sp.chain{w w1:World}{A A1:SA}(hF:Frm (fun k=>k=A.ga\/k=A.gr) w w1)(a:SaS A A1){w2:World}(h2:Frm (fun k=>k=A1.ga) w1 w2):Frm (fun k=>k=A.ga\/k=A.gr) w w2:=hF.trans (h2.wide fun k _ e=>.inl (e.trans a.ga))
theorem aCS(a:f.n b=some (2,es))(key:ByteArray):stepDel f b key=match shadow f (.ai b (bI es key))with
  | none=>none
  | some (g,c)=>if 2 <(Fo.look g c).2.length then some (g,c)else if bI es key+1 <(Fo.look g b).2.length then(fillNext g b (bI es key) c).map fun k=>(k,c)else(fillLast g b (bI es key) c).map fun k=>(k,c):=by
 unfold stepDel;rw[aE a];rfl
theorem aBQ(q:stepDel f b key=none):delAt (h+1) f t b key=none:=by
 unfold delAt;rw[q]
theorem aIH{c:Nat}(x:Nat)(d:Nd)(h:(fallF g t b c).n x=some d):g.n x=some d:=by
 have a:upd g.n b none x=some d:=h;by_cases e:x=b
 ·rw[e,aD]at a;cases a
 ·rw[aC _ _ e]at a;exact a
theorem zV(h:1<=(Fo.look g b).2.length):∃d,g.n b=some d/\Fo.look g b=d:=by
 cases e:g.n b with
 | none=>unfold Fo.look at h;rw[e]at h;simp at h
 | some d=>exact⟨d,rfl,aE e⟩
theorem xF(n:Wk f t H)(R:VE f)(jy:f.r.length<=16)(ed:cI f t H)(hm:Mem f.n H (aB f t) key)(w:World)(S:Nat)(A:SA)(v:Sp w S A f):
  Calls Tryz.prog 52 #[.pointer (some ⟨S,0,none⟩),.int .i64 t,.string key] w (ZqP w S A (bU f t H key)):=by
 have sv:=gY;have GX:=jC;have ht:=n.tl;have hE:=fun b' d' (ft:f.n b'=some d')=>(by have:=n.ai ft;omega:d'.2.length<=10);obtain⟨_,s1,s2,_⟩:=v.cells;obtain⟨r0,r1⟩:=v.v.root ht;have h0:0<=(f.r.getD t (0,0)).2:=(n.ic.rb _ (aP ht)).1;have fx:(f.r.getD t (0,0)).2=(aB f t:Int):=by unfold aB;omega
 rw[fx]at r1;have S9:(t:Int) <(f.r.length:Int):=by omega
 have zx:=aA (mL n.ic hE w S A v jy t ht);have D:Hid (bU f t H key=match shadow f (.root t)with
  | none=>none
  | some (g,r)=>delAt H g t r key):=rfl
 generalize bU f t H key=B at *;clear hE fx h0 r0;go_enter Tryz.func52,Tryz.ntmps52;go_wp2_with fail;refine zx.out.mono ?_;intro r w1 K;obtain⟨ij,we,wg⟩:=K;cases s:shadow f (.root t)with
 | none=>
  obtain rfl:=we s;have HP:Hid (B=none):=by show B=none;rw[D.out];rw[s]
  clear we wg s;go_wp2;go_ret;rw[HP.out];exact⟨ij.wide fun _ _ e=>.inl e,fun _=>rfl,fun g q=>by cases q⟩
 | some gc=>
  obtain⟨g,r⟩:=gc;obtain⟨rfl,A1,J,cg,C6,AN,pn,pj,DY,Du,Nx,CM⟩:=wg g r s;obtain⟨wk1,p1,a1,a2,a3,a4,a5,a6⟩:=n.ak s;have Lj:=R.ak s;have VD:=(n.ba s key H).1 hm;rw[s]at D;simp only at D;have Az:t<J.r.length:=by rw[AN];exact ht
  obtain⟨be,d8⟩:=cg.bl Az r;have X:Sp (w1.setCell ⟨A1.gr,t*2+1,none⟩ (.int .i64 r)) S A1 g:=be.sub pj DY pn Du Nx CM;obtain⟨_,t1,t2,_⟩:=cg.cells;obtain⟨_,z1⟩:=cg.v.root Az;have z2:=cg.v.bo.frozen (t*2+1);have M:Frm (fun k=>k=A.ga\/k=A.gr) w (w1.setCell ⟨A1.gr,t*2+1,none⟩ (.int .i64 r)):=(ij.wide fun _ _ e=>.inl e).trans (d8.wide fun _ _ e=>.inr (e.trans C6.gr));obtain⟨w2,dh⟩:=eZ (w1.setCell ⟨A1.gr,t*2+1,none⟩ (.int .i64 r));rw[dh]at X M;have S8:(t:Int) <(J.r.length:Int):=by omega
  have Gr:¬((r:Int)<0):=by omega
  have Bb:g.r.length<=16:=by rw[a6.len];exact jy
  have HD:Hid (DeR w S A t key B H (.int .i64 r) w2):=⟨⟨H,g,[],r,none,none,A1,rfl,wk1,p1,fun q=>absurd rfl q,a5 ed,VD,Lj,Bb,X,C6,D.out⟩,M⟩;obtain⟨m,xw,G⟩:=mB (DeR w S A t key B);have C1:=aA xw;have FN:=aA G;clear we wg s ij d8 M cg be X AN pn pj DY Du Nx CM C6 zx a1 a2 a3 a4 a5 a6 wk1 p1 Lj VD Bb xw G D v n R hm ed;go_wp2;clear dh;go_loopw [7,8,9,10] (fun c _ _ _ wr=>∃h,DeR w S A t key B h c wr) (fun c _ _ _ wr=>m c wr)
  case atStart=>exact⟨H,HD.out⟩
  case round=>
   clear HD;obtain⟨h0,Mw⟩:=hrel;have hR:=C1.out _ _ _ Mw;obtain⟨hh,X5⟩:=eZ (m u7 wr);rw[X5]at hR;clear Mw;obtain⟨⟨H1,J,P1,b,lo,hi,A1,rfl,n,p,h3,ed,hm,R,jy,v,hA,UY⟩,hF⟩:=hR;have D:=aA UY;have HF:=aA hF;have HA:=aA hA;obtain⟨_,s1,_⟩:=v.cells;have xt:S≠A1.ga:=v.box.ab v.v.aq.arr (by decide);clear UY hF hA;cases hh with
   | zero=>
    obtain⟨es,ah,hn,hc⟩:=p.leaf n;obtain⟨es',q1,j0,CK,gz⟩:=hm;rw[ah]at q1;cases q1;have ai:=n.ai ah;simp only at ai;have eX:=n.ic.lt ah;obtain⟨a,cp,ee,yq,_,c0,c1,_⟩:=v.v.aq.at ah;simp only at ee c0 c1;obtain⟨g0,o0,cc,P,uv,af⟩:=eG ee (by omega);cases P;have Fe:(b:Int) <(A1.ns.length:Int):=by omega
    have V:Hid (B=some (setN J b (1,delE es (cLt es key)))):=by
     show B=_
     rw[D.out];unfold delAt;rw[aE ah]
    have Be:=aA fun(i:Nat) (hi:i<es.length)=>v.bm (i:=i) ee hi (by omega) 1 eX;have HS:=aA v;have V8:=aA gz;clear ee n p R v D ed h3;go_wp2;go_loopw [12] (fun i wx=>∃j:Nat,j<=j0/\i=.int .i64 j/\Is2 (.bool false) (.bool false) wx wr/\Hid (∀x,x<j->ky es x≠key)) (fun i _=>es.length -(intOf i).toNat)
    case atStart=>exact⟨0,by omega,rfl,⟨rfl,rfl⟩,fun x hx=>by omega⟩
    case round=>
     obtain⟨j,hj,rfl,⟨_,Y7⟩,bg⟩:=hrel;subst Y7;have ak:j<es.length:=by omega
     obtain⟨x0,_,_⟩:=af wr j rfl ak;have d9:(j:Int) <(es.length:Int):=by omega
     have HK:Hid (ky es j=(es.getD j e0).1):=rfl;clear af;generalize (es.getD j e0).1=x at *;by_cases P:x=key
     ·have hq:(x.toList == key.toList)=true:=by rw[P];exact beq_self_eq_true _
      have HC:Hid (cLt es key=j):=(kC hn.a6 ak (HK.out.trans P)).2;have L7:=aA (Be.out j ak);clear P Be;go_wp2;go_region_held3 (fun W=>W.cell? ⟨S,1,none⟩=some (.slice (some ⟨A1.ga,0,none⟩) A1.ns.length (A1.ns.length+A1.nj.length))) (first | assumption | go_keep | exact bY xt dm) ((go_at_call 78;refine L7.out.mono ?_;rintro r E ⟨⟨y,rfl,Df,AO⟩,bu,dm,k0,k1,gz,gh,jq,im⟩));rw[dM Df];obtain⟨⟨A4,ax,C7⟩,jt⟩:=HS.out.store bu eX AO;have HR:Hid (ZqP w S A B (.returned (.bool true)) (set2 E A1.ga b y)):=by
       show ZqP _ _ _ _ _ _
       rw[V.out,HC.out];refine⟨Sp.chain HF.out HA.out jt,fun q=>(by cases q),fun o q2=>?_⟩;cases q2;exact⟨rfl,A4,ax,HA.out.trans C7⟩
      clear dm gz gh jq im ax jt;go_wp2;go_ret;exact HR.out
     ·have hq:(x.toList == key.toList)=false:=by rw[beq_eq_false_iff_ne];exact fun e=>P (gX e)
      have SG:j<j0:=by
       rcases Nat.lt_or_eq_of_le hj with q | q
       ·exact q
       ·exfalso;apply P;rw[<-HK.out,q];exact V8.out
      have Fz:Hid (∀z,z<j+1->ky es z≠key):=fun z K=>by
       by_cases e:z=j
       ·rw[e,HK.out];exact P
       ·exact bg.out z (by omega)
      clear P Be;go_wp2;go_roundw
      case rel=>exact⟨j+1,by omega,by go_num,⟨rfl,rfl⟩,Fz.out⟩
      case measure=>simp[intOf];omega
   | succ h=>
    obtain⟨l,O,zn,mr⟩:=p.inner n;have SN:l.length<=5:=n.ai O;have eX:=n.ic.lt O;have EJ:=fun b' d' (ft:J.n b'=some d')=>(by have:=n.ai ft;omega:d'.2.length<=10);have QT:=Wk.two p ed h3 O;obtain⟨a,vc,ko,yq,_,c0,c1,_⟩:=v.v.aq.at O;simp only at ko c0 c1;have Io:=aA (sF zn.a6 key);have ew:=eJ key mr;obtain⟨v1,_⟩:=R.inner n.ic O ew;obtain⟨g1,o1,cc1,Eu,li,vp⟩:=eG ko (by omega);cases Eu;have CG:=vP (.slice (some ⟨g1,o1,none⟩) l.length vc) l key wr ko (by omega);rw[Io.out]at CG;have L:=aA (aCS O key);have Te:=aA fun(g:fZ) (c:Nat) (q:stepDel J b key=some (g,c))=>n.cw p ed h3 hm q;have D6:Hid (stepDel J b key=none->delAt (h+1) J t b key=none):=aBQ;generalize bI l key=i at *;obtain⟨x0,x1,x2⟩:=vp wr i rfl ew;rw[v1]at x0 x1 x2;have SB:(i:Int) <(l.length:Int):=by omega
    have Fe:(b:Int) <(A1.ns.length:Int):=by omega
    have zx:=aA (iH n.ic EJ R wr S A1 v jy b i l O ew);clear vp v1;go_wp2_with fail;refine CG.mono ?_;rintro r w2 ⟨rfl,rfl⟩;go_wp2_with fail;refine zx.out.mono ?_;intro r E K;obtain⟨M,we,wg⟩:=K;cases s:shadow J (.ai b i)with
    | none=>
     obtain rfl:=we s;have HP:Hid (B=none):=by
      show B=none
      rw[D.out];exact D6.out (by rw[L.out,s])
     clear we wg s;go_wp2;go_ret;rw[HP.out];exact⟨Sp.chain HF.out HA.out M,fun _=>rfl,fun g q=>by cases q⟩
    | some gc=>
     obtain⟨g,c⟩:=gc;obtain⟨rfl,A3,f3,X,Bg,BT,bp⟩:=wg g c s;obtain⟨C,p2,p3,⟨es2,m1,m2,m3,m4⟩,m5,m6,m7,_,m9⟩:=n.aj p O ew s;have ub:=R.aj n.ic O ew s;rw[s]at L;simp only at L;obtain⟨es',y8⟩:=eZ (l.set i (ky l i,.empty,(c:Int)));rw[y8]at bp;have G:g.n b=some (2,es'):=by
      have:=bp.sub b _ m1
      have e:(setN f3 b (2,es')).n b=some (2,es'):=aD _ _ _;rw[e]at this;rw[m1];exact this.symm
     have Gg:kd es' i=c:=by rw[m1]at G;cases G;exact m4
     obtain⟨⟨k,N⟩,jf⟩:=C.ic.live (x:=c) (by rw[m6];omega);have av:=C.ai jf;have y7:=C.ai G;simp only at av y7;have yx:2<=N.length:=by
      have:=(p3.ok C.ok).2 (by simp);unfold sz at this;rw[jf]at this;exact this
     have Ef:b<f3.c.length:=by rw[BT];exact eX
     have mu:yE.Sl E (.slice (some ⟨g1,o1,none⟩) l.length vc) l:=ko.ae M fun g cs hg=>hg.ab v.v.aq.arr (by decide);obtain⟨y0,y1,y2⟩:E.cell? ⟨g1,o1+i*3,none⟩=some (.string (ky l i))/\E.cell? ⟨g1,o1+i*3+1,none⟩=some (.string .empty)/\E.cell? ⟨g1,o1+i*3+2,none⟩=some (.int .i64 (kd l i)):=by
      have aw:g1≠A1.ga:=by
       rcases ko with⟨q,_⟩ | ⟨g',o',cap',xs,q,q1,_⟩
       ·cases q
       ·cases q;exact q1.ab v.v.aq.arr (by decide)
      have hw:∀k,E.cell? ⟨g1,k,none⟩=w2.cell? ⟨g1,k,none⟩:=fun k=>by simp[World.cell?,M.block g1 li aw]
      exact⟨(hw _).trans x0,(hw _).trans x1,(hw _).trans x2⟩
     have Ix:Hid (Calls Tryz.prog 76 #[.slice (some ⟨g1,o1,none⟩) l.length vc,.int .i64 i,.agg #[.string (ky l i),.string .empty,.int .i64 c]] E fun r w'=>∃u,r=.returned u/\yE.Own E.heap.size w' u es'/\Bl E w'):=by
      rw[<-y8];exact eU _ l i (ky l i,ByteArray.empty,(c:Int)) E mu ew (by omega)
     have AH:¬((c:Int)<0):=by omega
     have Ip:Hid (Frm (fun k=>k=A.ga\/k=A.gr) w E):=Sp.chain HF.out HA.out M;have L2:Hid (SaS A A3):=HA.out.trans Bg;have Bb:Hid (g.r.length<=16):=by show g.r.length<=16;rw[m9.len];exact jy
     have LV:Hid (es'.length=l.length):=by show es'.length=_;rw[<-y8,List.length_set]
     clear we wg ko v y8 m1 m2 m3 m4 m5 m7 m9 EJ CG zx M Bg BT x0 x1 x2 mu hm n p R ed h3;go_wp2_with fail;refine Ix.out.mono ?_;rintro r w4 ⟨u,rfl,hu,fw⟩;obtain⟨x,rfl,wv,BB⟩:=hu.nv 2;have ax:=X.below fw;obtain⟨k0,k1,gz,gh,jq,im,RF⟩:=ax.wr Ef;obtain⟨_,t1',_⟩:=ax.cells;obtain⟨⟨A5,de,xe⟩,eu⟩:=X.fin fw Ef BB bp;have um:Hid (Frm (fun k=>k=A.ga\/k=A.gr) w (set2 w4 A3.ga b x)):=Sp.chain Ip.out L2.out eu;have G9:Hid (SaS A A5):=L2.out.trans xe;have tg:=dM (w:=w4) (g:=A3.ga) (q:=b) wv;obtain⟨w5,OY⟩:=eZ (set2 w4 A3.ga b x);rw[OY]at de um tg;have I0:=aA de;obtain⟨_,t5,_⟩:=de.cells;obtain⟨ac,cpc,gk,Fg,_,d0,d1,Ep⟩:=de.v.aq.at jf;simp only at gk d0 d1 Ep;have GZ:(c:Int) <(A5.ns.length:Int):=by omega
     clear ax fw eu xe BB hu X OY de;go_upto_if 89 with fail
     clear tg;rw[aE jf,aE G]at L;simp only at L;by_cases lw:N.length=2
     ·have uu:((N.length:Int) == 2)=true:=by rw[lw];rfl
      rw[if_neg (by omega)]at L;have Fl:i<es'.length:=by rw[LV.out];exact ew
      have PI:=zT C p2 ub Bb.out G Fl (by rw[LV.out];exact QT) (by rw[Gg];exact jf) (by rw[Gg];exact m6) lw w5 S A5 I0.out;rw[Gg]at PI;obtain⟨FW,PD⟩:=eZ ((if i+1<es'.length then fillNext g b i c else fillLast g b i c));rw[PD]at PI;have Ua:stepDel J b key=FW.map fun k=>(k,c):=by
       rw[L.out,<-PD];split<;>rfl
      have XI:∀o,FW=some o->VE o:=fun o q=>by
       rw[<-PD]at q;split at q
       ·rename_i hn
        exact ub.fillNext C.ic G hn q
       ·rename_i hn
        have:=QT
        exact ub.fillLast C.ic G Fl (by have:=LV.out;omega) q
      have WU:=aA PI;rw[uu];clear lw uu gk PI L PD Gg;go_wp2_with fail;refine WU.out.mono ?_;intro e w6 K;cases FW with
      | none=>
       obtain⟨rfl,DB⟩:=K.no rfl;have HP:Hid (B=none):=by
        show B=none
        rw[D.out];exact D6.out (by rw[Ua];rfl)
       clear K;go_wp2;go_ret;rw[HP.out];exact⟨Sp.chain um.out G9.out DB,fun _=>rfl,fun g q=>by cases q⟩
      | some o=>
       obtain⟨rfl,⟨⟨U,T,EC⟩,xg⟩⟩:=K.yes o rfl;obtain⟨mo,gj⟩:=Te.out o c Ua;have Uj:=XI o rfl;have Ha:Hid (Frm (fun k=>k=A.ga\/k=A.gr) w w6):=Sp.chain um.out G9.out xg;have Dh:Hid (SaS A U):=G9.out.trans EC;have UX:o.r.length<=16:=by rw[mo.len];exact jy
       have ei:1<=(Fo.look o b).2.length:=by rcases gj with⟨I,_⟩ | ⟨I,_⟩<;>omega
       obtain⟨d7,Xn,g8⟩:=zV ei;rw[g8]at gj ei;obtain⟨_,t7,t72,_⟩:=T.cells;obtain⟨a7,cp7,_,XU,_,_,e17,_⟩:=T.v.aq.at Xn;have NC:(b:Int) <(U.ns.length:Int):=by omega
       rcases gj with⟨I,e2,Q,P',lo',ap,Y,Z,e6,e7⟩ | ⟨I,e2,Q,Y,H',Z,e6,e7,e8⟩
       ·have F:DeR w S A t key B h (.int .i64 c) w6:=⟨⟨H1,o,P',c,lo',ap,U,rfl,Q,Y,Z,e6,e7,Uj,UX,T,Dh.out,D.out.trans e2⟩,Ha.out⟩
        have V:=aA F;have h1:=FN.out _ _ _ F;have mr:((d7.2.length:Int) == 1)=false:=by rw[beq_eq_false_iff_ne];omega
        clear K F I e2 Q Y Z e6 e7 T xg;go_wp2;go_roundw
        case rel=>exact⟨h,V.out⟩
        case measure=>omega
       ·obtain⟨oe,AA⟩:=T.bl Q c
        have q7:Sp (w6.setCell ⟨U.gr,t*2+1,none⟩ (.int .i64 c)) S U (fallF o t b c):=oe.sub (fun x d hx=>(show o.n x=some d from aIH (g:=o) (t:=t) (b:=b) (c:=c) x d hx)) (by simp[fallF,setL,freeB]) rfl rfl rfl rfl;have XE:(fallF o t b c).r.length<=16:=by
         have:(fallF o t b c).r.length=o.r.length:=(aX.fallF ..).len
         rw[this];exact UX
        have F:DeR w S A t key B h (.int .i64 c) (w6.setCell ⟨U.gr,t*2+1,none⟩ (.int .i64 c)):=⟨⟨H',fallF o t b c,[],c,none,none,U,rfl,Z,e6,fun q=>absurd rfl q,e7,e8,Uj.fallF t b c,XE,q7,Dh.out,D.out.trans Y⟩,Ha.out.trans (AA.wide fun k _ e=>.inr (e.trans Dh.out.gr))⟩;have V:=aA F;have h1:=FN.out _ _ _ F;have mr:((d7.2.length:Int) == 1)=true:=by rw[I];rfl
        obtain⟨_,z1'⟩:=T.v.root Q;have z2':=T.v.bo.frozen (t*2+1);have Yr:(t:Int) <(o.r.length:Int):=by omega
        clear K F I e2 Q Y Z e6 e7 e8 T xg oe q7 AA;go_wp2;go_roundw
        case rel=>exact⟨h,V.out⟩
        case measure=>omega
     ·have uu:((N.length:Int) == 2)=false:=by rw[beq_eq_false_iff_ne];omega
      rw[if_pos (by omega)]at L;obtain⟨mo,gj⟩:=Te.out g c L.out;have F:DeR w S A t key B h (.int .i64 c) w5:=by
       rcases gj with⟨I,e2,Q,P',lo',ap,Y,Z,e6,e7⟩ | ⟨I,_⟩
       ·exact⟨⟨H1,g,P',c,lo',ap,A5,rfl,Q,Y,Z,e6,e7,ub,Bb.out,I0.out,G9.out,D.out.trans e2⟩,um.out⟩
       ·exfalso;rw[aE G]at I;have:=LV.out;simp only at I;omega
      have V:=aA F;have h1:=FN.out _ _ _ F;rw[uu];clear lw uu gk F gj mo;go_wp2;go_roundw
      case rel=>exact⟨h,V.out⟩
      case measure=>omega
def plZ(f:fZ)(tree:Int):Int:=match atT f tree with
 | none=>-1
 | some t=>t
theorem aEV(ht:t<f.r.length)(h:∀x,x<t->rid f x≠tree)(he:rid f t=tree):atT f tree=some t:=by
 unfold atT;rw[List.find?_range_eq_some];exact⟨by simpa using he,by simpa using ht,fun x a=>by have:=h x a;simpa using this⟩
theorem yF(h:∀x,x<f.r.length->rid f x≠tree):atT f tree=none:=by
 unfold atT;rw[List.find?_eq_none];intro x a;have:=h x (List.mem_range.1 a);simpa using this
theorem lI(w:World)(S:Nat)(A:SA)(h:Sp w S A f)(p:f.r.length<=100)(tree:Int):
  Calls Tryz.prog 46 #[.pointer (some ⟨S,0,none⟩),.int .i64 tree] w fun r w'=>r=.returned (.int .i64 (plZ f tree))/\w'=w:=by
 obtain⟨_,_,s,_⟩:=h.cells;go_enter Tryz.func46,Tryz.ntmps46;go_wp2;go_loopw [5] (fun i wr=>∃k:Nat,k<=f.r.length/\i=.int .i64 k/\Is2 (.bool false) (.bool false) wr w/\Hid (∀x,x<k->rid f x≠tree)) (fun i _=>f.r.length -(intOf i).toNat)
 case atStart=>exact⟨0,by omega,rfl,⟨rfl,rfl⟩,fun x n=>by omega⟩
 case round=>
  obtain⟨k,m,rfl,⟨_,l⟩,b⟩:=hrel;subst l;by_cases d:k<f.r.length
  ·obtain⟨r0,_⟩:=h.v.root d
   have q:(k:Int) <(f.r.length:Int):=by omega
   have c:Hid (rid f k=(f.r.getD k (0,0)).1):=rfl;generalize (f.r.getD k (0,0)).1=x at *;cases g:(x == tree)with
   | true=>
    have a:Hid (plZ f tree=(k:Int)):=by
     show plZ f tree=_
     unfold plZ;rw[aEV d b.out (c.out.trans (by simpa using g))]
    go_wp2
    go_ret
    exact⟨by rw[a.out];rfl,rfl⟩
   | false=>
    have j:Hid (∀z,z<k+1->rid f z≠tree):=fun z o=>by
     by_cases e:z=k
     ·rw[e,c.out];simpa using g
     ·exact b.out z (by omega)
    go_wp2
    go_roundw
    case rel=>exact⟨k+1,by omega,by go_num,⟨rfl,rfl⟩,j.out⟩
    case measure=>simp[intOf];omega
  ·obtain rfl:k=f.r.length:=by omega
   have a:Hid (plZ f tree=-1):=by
    show plZ f tree=_
    unfold plZ;rw[yF b.out]
   go_wp2
   go_ret
   exact⟨by rw[a.out];rfl,rfl⟩
theorem pZ(v:Value)(c:List Int)(w:World)(m:y64.Sl w v c)(z:c.length<=512)(j:0<c.length):
  Calls Tryz.prog 67 #[v] w fun r w'=>r=.returned (.int .i64 (iX c c.length))/\w'=w:=by
 obtain⟨g,o,t,rfl,u,_,d⟩:=nH m j;have b:∀k,iX c k<=k:=by
  intro k;induction k with
  | zero=>exact nR _
  | succ k ih=>unfold iX;split<;>omega
 go_enter Tryz.func67,Tryz.ntmps67
 go_wp2
 go_loopw [3,4] (fun n i wr=>∃k:Nat,k<=c.length/\i=.int .i64 k/\Is2 n (.int .i64 (iX c k)) wr w) (fun _ i _=>c.length -(intOf i).toNat)
 case atStart=>exact⟨0,by omega,rfl,⟨rfl,rfl⟩⟩
 case round=>
  obtain⟨k,y,rfl,⟨l,p⟩⟩:=hrel;subst p;subst l;by_cases h:k<c.length
  ·have B:=d wr k rfl h
   have A:(k:Int) <(c.length:Int):=by omega
   have a:Hid (iX c (k+1)=iX c k+if 0<c.getD k 0 then 1 else 0):=rfl;have q:=b k;clear d b;generalize c.getD k 0=x at *;generalize iX c k=f at *;have s:IntKind.i64.wrap ((f:Int)+1)=((f+1:Nat):Int):=(IntWalk.i64_in _ ⟨by omega,by omega⟩).trans (by omega);by_cases e:0<x
   ·rw[if_pos e]at a
    go_wp2
    go_roundw
    case rel=>exact⟨k+1,by omega,by go_num,⟨by rw[a.out];first | rfl | go_num,rfl⟩⟩
    case measure=>simp[intOf];omega
   ·rw[if_neg e]at a
    go_wp2
    go_roundw
    case rel=>exact⟨k+1,by omega,by go_num,⟨by rw[a.out];rfl,rfl⟩⟩
    case measure=>simp[intOf];omega
  ·obtain rfl:k=c.length:=by omega
   clear d b;go_wp2;go_ret;exact⟨rfl,rfl⟩
