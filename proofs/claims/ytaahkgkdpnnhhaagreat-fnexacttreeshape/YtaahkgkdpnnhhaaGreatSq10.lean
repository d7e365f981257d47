import Derived.Test.YtaahkgkdpnnhhaaGreatSq8
set_option maxHeartbeats 9999999
set_option maxRecDepth 99999
set_option linter.all false
namespace Go.Proofs.YtaahkgkdpnnhhaaGreat
open Go.RowKit Fo
variable{k:Int}{ces es l ses:List E3}{S b i j s:Nat}{A:SA}{v:Value}{w w':World}{f g:fZ}
structure MkP(w:World)(S:Nat)(A:SA)(b:Nat)(k:Int)(l:List E3)(r:Ending)(w':World):Prop where
 ex:∃x:NV,r=.returned (.slice x.2.1 x.2.2.1 x.2.2.2)∧x.1=k∧NdR w' x (k,l)
 bel:Bl w w'
 s1:w'.cell? ⟨S,1,none⟩=some (.slice (some ⟨A.ga,0,none⟩) A.ns.length (A.ns.length+A.nj.length))
 wr:∃k0 k1,w'.cell? ⟨A.ga,b*2,none⟩=some k0∧w'.cell? ⟨A.ga,b*2+1,none⟩=some k1∧w'.frozen? ⟨A.ga,b*2,none⟩=false∧w'.frozen? ⟨A.ga,b*2+1,none⟩=false
theorem Sp.made(h:Sp w S A f)(hb:b<f.cur.length){u:Value}(hu:yE.Own w.heap.size w' u l)(hB:Below w.heap.size w.drew w'):MkP w S A b k l (.returned u) w':=by
 obtain⟨x,rfl,h1,h2⟩:=hu.nv k;have Da:Bl w w':=(bQ _ w).drew.trans hB;obtain⟨k0,k1,y1,y2,y3,y4,_⟩:=(h.below Da).wr hb;exact⟨⟨x,rfl,h1,h2⟩,Da,(h.below Da).cells.2.1,k0,k1,y1,y2,y3,y4⟩
theorem Sp.joinM(h:Sp w S A f){v':Value}{fs:List E3}(hv:yE.Sl w v es)(nw:yE.Sl w v' fs)(hl:es.length≤100)(As:fs.length≤100)(k:Int)(hb:b<f.cur.length):Calls Tryz.prog 108 #[v,v'] w.drew (MkP w S A b k (es++fs)):=by
 refine(mM v v' es fs w.drew (hv.below (bQ _ w).drew) (nw.below (bQ _ w).drew) hl As).mono ?_;rintro r w1 ⟨u,rfl,hu,ao⟩;exact h.made hb hu ao
theorem Sp.withoutM(h:Sp w S A f)(hv:yE.Sl w v es)(hi:i<es.length)(hl:es.length≤100)(k:Int)(hb:b<f.cur.length):Calls Tryz.prog 96 #[v,.int .i64 i] w.drew (MkP w S A b k (delE es i)):=by
 refine(uH v es i w.drew (hv.below (bQ _ w).drew) hi hl).mono ?_;rintro r w1 ⟨u,rfl,hu,ao⟩;exact h.made hb hu ao
theorem Sp.swapM(h:Sp w S A f)(e:E3)(hv:yE.Sl w v es)(hi:i<es.length)(hl:es.length≤100)(k:Int)(hb:b<f.cur.length):Calls Tryz.prog 94 #[v,.int .i64 i,.agg #[.string e.1,.string e.2.1,.int .i64 e.2.2]] w.drew (MkP w S A b k (es.set i e)):=by
 refine(eP v es i e w.drew (hv.below (bQ _ w).drew) hi hl).mono ?_;rintro r w1 ⟨u,rfl,hu,ao⟩;exact h.made hb hu ao
theorem Sp.insM(h:Sp w S A f)(e:E3)(hv:yE.Sl w v es)(hi:i≤es.length)(hl:es.length≤100)(k:Int)(hb:b<f.cur.length):Calls Tryz.prog 109 #[v,.int .i64 i,.agg #[.string e.1,.string e.2.1,.int .i64 e.2.2]] w.drew (MkP w S A b k (insE es i e)):=by
 refine(nP v es i e w.drew (hv.below (bQ _ w).drew) hi hl).mono ?_;rintro r w1 ⟨u,rfl,hu,ao⟩;exact h.made hb hu ao
theorem Sp.slF(h:Sp w S A f)(hv:yE.Sl w v l)(hF:Frm (fun k=>k=A.ga) w w'):yE.Sl w' v l:=hv.frm hF fun g cs hg=>hg.type_ne h.v.nds.arr (by decide)
theorem sK{c:Nat}{pes:List E3}(x:Nat)(d:Nd)(h:(mergeF g b c s k ces pes).nodes x=some d):(setN (setN g c (k,ces)) b (2,pes)).nodes x=some d:=by
 unfold mergeF at h;rw[cQ]at h;split at h
 ·by_cases e:x=s
  ·rw[e,aD]at h;cases h
  ·rw[aC _ _ e]at h;exact h
 ·exact h
theorem pO(g:fZ)(b c s:Nat)(k:Int)(ces pes:List E3):(mergeF g b c s k ces pes).roots=g.roots:=by
 unfold mergeF letGo;split<;>rfl
theorem aKN{W:World}{g q:Nat}{x v0 v1:Value}(av:s≠q)(h:W.cell? ⟨g,s*2+1,none⟩=some x):((W.setCell ⟨g,q*2,none⟩ v0).setCell ⟨g,q*2+1,none⟩ v1).drew.cell? ⟨g,s*2+1,none⟩=some x:=by
 rw[jG _ _ _ _ _ (.inr ⟨by omega,by omega⟩)];exact h
structure Wd(g:fZ)(b:Nat)(es:List E3)(i j:Nat)(k:Int)(ces ses:List E3):Prop where
 ic:IC g
 ve:VE g
 r16:g.roots.length≤16
 ent:∀b d,g.nodes b=some d→d.2.length≤5
 hb:g.nodes b=some (2,es)
 hi:i<es.length
 hj:j<es.length
 hc:g.nodes (kd es i)=some (k,ces)
 hs:g.nodes (kd es j)=some (k,ses)
 bc:b≠kd es i
 bs:b≠kd es j
 cs:kd es i≠kd es j
 c2:ces.length=2
 s2:2≤ses.length
theorem nT(h:Wd g b es i (i+1) k ces ses)(h2:ses.length=2)(w:World)(S:Nat)(A:SA)(hS:Sp w S A g):
  Calls Tryz.prog 95 #[.pointer (some ⟨S,0,none⟩),.int .i64 b,.int .i64 i] w fun e w'=>e=.returned (.bool true)∧Zt w S A (mergeF g b (kd es i) (kd es (i+1)) k (ces++ses) (delE es (i+1))) w':=by
 have so:=gS;have rh:=h.ent b _ h.hb;simp only at rh;have d5:=h.ic.lt h.hb;have au:=h.ic.lt h.hc;obtain⟨v0,_⟩:=h.ve.inner h.ic h.hb h.hi;obtain⟨v1,_⟩:=h.ve.inner h.ic h.hb h.hj;obtain⟨_,s1,_⟩:=hS.cells;obtain⟨a,cp,dw,we,_,_,c1,_⟩:=hS.v.nds.at h.hb;obtain⟨ac,cpc,fv,JC,_,d0,d1,_⟩:=hS.v.nds.at h.hc;obtain⟨as1,cps,ru,Rn,_,_,e1,_⟩:=hS.v.nds.at h.hs;simp only at dw c1 fv d0 d1 ru e1;obtain⟨g0,o0,cc,he,vh,aa⟩:=dW dw (by have:=h.hi;omega);cases he;obtain⟨_,_,x2⟩:=aa w i rfl h.hi;have av:g0≠A.ga:=by
  rcases dw with⟨q,_⟩ | ⟨g',o',cap',xs,q,q1,_⟩
  ·cases q
  ·cases q;exact q1.type_ne hS.v.nds.arr (by decide)
 rw[v0]at x2;obtain⟨B,hB⟩:=eZ (w.heap.size);obtain⟨w0,m0⟩:=eZ (w.alloc (.cells #[.int .i64 k,.slice ac ces.length cpc] 108));have ik:=bAl m0;have bo:=iNw m0 hB;obtain⟨_,_,y2⟩:=aa w0 (i+1) (ik.block _ vh) h.hj;rw[v1]at y2;have kh:=hS.below ik;obtain⟨_,t1,_⟩:=kh.cells;have e10:w0.cell? ⟨A.ga,kd es (i+1)*2+1,none⟩=some (.slice as1 ses.length cps):=(ik.cell (p:=⟨A.ga,_,none⟩) hS.v.nds.arr.lt).trans e1;have b0:w0.cell? ⟨B,0,none⟩=some (.int .i64 k):=bo.c rfl;have b1:w0.cell? ⟨B,1,none⟩=some (.slice ac ces.length cpc):=bo.c rfl;have wd:S≠A.ga:=hS.box.type_ne hS.v.nds.arr (by decide);have zu:B≠A.ga:=by have:=hS.v.nds.arr.lt;omega
 have D5:(b:Int) <(A.ns.length:Int):=by omega
 have Fq:(kd es i:Int) <(A.ns.length:Int):=by omega
 have GJ:(kd es (i+1):Int) <(A.ns.length:Int):=by omega
 have Ji:(i:Int) <(es.length:Int):=by have:=h.hi;omega
 obtain⟨i1,je⟩:=eZ (i+1);have wj:IntKind.i64.wrap ((i:Int)+1)=(i1:Int):=(IntWalk.i64_in _ ⟨by omega,by omega⟩).trans (by omega);have Qy:(i1:Int) <(es.length:Int):=by have:=h.hj;omega
 have xq:((ses.length:Int) == 2)=true:=by rw[h2];rfl
 have HJ:=aA (kh.joinM (fv.below ik) (ru.below ik) (by have:=h.c2;omega) (by omega) k au);have BB:=aA fun(A1:SA) (f1:fZ) (w1:World) (h1:Sp w1 S A1 f1) (hF:Frm (fun k=>k=A.ga) w w1) (hl:b<f1.cur.length)=>h1.withoutM (hS.slF dw hF) h.hj (by omega) 2 hl;have kf:=aA kh;have FK:=aA ik;have hX:Hid (kd es (i+1)≠kd es i):=h.cs.symm;have ym:Hid (∀w1,Bl w0 w1→w1.cell? ⟨B,0,none⟩=some (.int .i64 k)∧w1.cell? ⟨B,1,none⟩=some (.slice ac ces.length cpc)∧w1.cell? ⟨A.ga,kd es (i+1)*2+1,none⟩=some (.slice as1 ses.length cps)):=fun w1 hb=>by
  refine⟨?_,?_,?_⟩
  ·rw[(bo.of (hb.block _ bo.lt)).cell];rfl
  ·rw[(bo.of (hb.block _ bo.lt)).cell];rfl
  ·exact(hb.cell (p:=⟨A.ga,_,none⟩) kh.v.nds.arr.lt).trans e10
 rw[je]at y2 e10 GJ BB hX ym;rw[je];obtain⟨q,hq⟩:=eZ (kd es i);obtain⟨s,hs⟩:=eZ (kd es i1);rw[hq]at x2 d0 d1 Fq HJ hX au;rw[hs]at y2 e10 GJ hX ym;rw[hq,hs];clear aa fv ru bo kh v0 v1 hq hs je h2;go_enter Tryz.func95,Tryz.ntmps95;go_wp2;go_region_held3 (fun W=>W.cell? ⟨S,1,none⟩=some (.slice (some ⟨A.ga,0,none⟩) A.ns.length (A.ns.length+A.nj.length))∧W.cell? ⟨B,0,none⟩=some (.int .i64 k)∧W.cell? ⟨B,1,none⟩=some (.slice ac ces.length cpc)∧W.cell? ⟨A.ga,s*2+1,none⟩=some (.slice as1 ses.length cps)) (first | assumption | go_keep | exact⟨db,fx,vt,CM⟩ | exact⟨bU wd db,bU zu fx,bU zu vt,aKN hX.out CM⟩) ((go_at_call 108;refine HJ.out.mono ?_;rintro r w1 ⟨⟨y,rfl,DA,ze⟩,ao,db,k0,k1,gi,gx,jl,fz⟩;obtain⟨fx,vt,CM⟩:=ym.out w1 ao));rw[dL DA];obtain⟨⟨A2,ax,DH⟩,du⟩:=kf.out.store ao au ze;have zx:Frm (fun k=>k=A.ga) w (set2 w1 A.ga q y):=(Frm.of_below FK.out).trans du;have IA:=aA (BB.out A2 _ _ ax zx (show b<g.cur.length from d5));have sk:=aA zx;have pu:=aA ax;have t2:=ax.cells.2.1;have Ie:S≠A2.ga:=by rw[DH.ga];exact wd
 have QC:(b:Int) <(A2.ns.length:Int):=by have:=ax.v.ln;have:A2.ns.length=g.cur.length:=this;omega
 have uy:Hid (∀x d,(mergeF g b q s k (ces++ses) (delE es i1)).nodes x=some d→(setN (setN g q (k,ces++ses)) b (2,delE es i1)).nodes x=some d):=fun x d hx=>sK x d hx;have zh:Hid (Fin (setN g q (k,ces++ses)) (mergeF g b q s k (ces++ses) (delE es i1)) b (2,delE es i1)):=⟨uy.out,(aW.mergeF ..).cur,pO ..,(aW.mergeF ..).next,(aW.mergeF ..).gen,(aW.mergeF ..).com⟩;generalize set2 w1 A.ga q y=w2 at *;clear db fx vt CM gi gx jl fz ze du zx ax BB ym HJ;go_wp2;go_region_held3 (fun W=>W.cell? ⟨S,1,none⟩=some (.slice (some ⟨A2.ga,0,none⟩) A2.ns.length (A2.ns.length+A2.nj.length))) (first | assumption | go_keep | exact bU Ie db) ((go_at_call 96;refine IA.out.mono ?_;rintro r w3 ⟨⟨z,rfl,Ax,GT⟩,ce,db,k0,k1,gi,gx,jl,fz⟩));rw[dL Ax];have HR:Hid (Zt w S A (mergeF g b q s k (ces++ses) (delE es i1)) (set2 w3 A2.ga b z)):=Zt.trans sk.out DH (pu.out.fin ce (show b<g.cur.length from d5) GT zh.out);clear db gi gx jl fz;go_wp2;go_ret;exact⟨rfl,HR.out⟩
theorem nS(h:Wd g b es (j+1) j k ces ses)(OT:¬j+1+1<es.length)(h2:ses.length=2)(w:World)(S:Nat)(A:SA)(hS:Sp w S A g):
  Calls Tryz.prog 95 #[.pointer (some ⟨S,0,none⟩),.int .i64 b,.int .i64 ((j+1:Nat):Int)] w fun e w'=>e=.returned (.bool true)∧Zt w S A (mergeF g b (kd es (j+1)) (kd es j) k (ses++ces) (delE (es.set (j+1) (ky es j,.empty,(kd es (j+1):Int))) j)) w':=by
 have so:=gS;have Fm:=iT;obtain⟨i,im⟩:=eZ (j+1);rw[im]at h OT ⊢;have rh:=h.ent b _ h.hb;simp only at rh;have d5:=h.ic.lt h.hb;have au:=h.ic.lt h.hc;obtain⟨v0,_⟩:=h.ve.inner h.ic h.hb h.hi;obtain⟨v1,_⟩:=h.ve.inner h.ic h.hb h.hj;obtain⟨_,s1,_⟩:=hS.cells;obtain⟨a,cp,dw,we,_,_,c1,_⟩:=hS.v.nds.at h.hb;obtain⟨ac,cpc,fv,JC,_,d0,d1,_⟩:=hS.v.nds.at h.hc;obtain⟨as1,cps,ru,Rn,_,_,e1,_⟩:=hS.v.nds.at h.hs;simp only at dw c1 fv d0 d1 ru e1;obtain⟨g0,o0,cc,he,vh,aa⟩:=dW dw (by have:=h.hi;omega);cases he;obtain⟨_,_,x2⟩:=aa w i rfl h.hi;have av:g0≠A.ga:=by
  rcases dw with⟨q,_⟩ | ⟨g',o',cap',xs,q,q1,_⟩
  ·cases q
  ·cases q;exact q1.type_ne hS.v.nds.arr (by decide)
 rw[v0]at x2;obtain⟨B,hB⟩:=eZ (w.heap.size);obtain⟨w0,m0⟩:=eZ (w.alloc (.cells #[.int .i64 k,.slice ac ces.length cpc] 108));have ik:=bAl m0;have bo:=iNw m0 hB;obtain⟨y0,_,y2⟩:=aa w0 j (ik.block _ vh) h.hj;rw[v1]at y0 y2;have kh:=hS.below ik;obtain⟨_,t1,_⟩:=kh.cells;have e10:w0.cell? ⟨A.ga,kd es j*2+1,none⟩=some (.slice as1 ses.length cps):=(ik.cell (p:=⟨A.ga,_,none⟩) hS.v.nds.arr.lt).trans e1;have b0:w0.cell? ⟨B,0,none⟩=some (.int .i64 k):=bo.c rfl;have b1:w0.cell? ⟨B,1,none⟩=some (.slice ac ces.length cpc):=bo.c rfl;have wd:S≠A.ga:=hS.box.type_ne hS.v.nds.arr (by decide);have zu:B≠A.ga:=by have:=hS.v.nds.arr.lt;omega
 have D5:(b:Int) <(A.ns.length:Int):=by omega
 have Fq:(kd es i:Int) <(A.ns.length:Int):=by omega
 have GJ:(kd es j:Int) <(A.ns.length:Int):=by omega
 have Ji:(i:Int) <(es.length:Int):=by have:=h.hi;omega
 have Gw:=h.hi;have AL:=h.hj;obtain⟨i2,AK⟩:=eZ (i+1);have wj:IntKind.i64.wrap ((i:Int)+1)=(i2:Int):=(IntWalk.i64_in _ ⟨by omega,by omega⟩).trans (by omega);have Xb:IntKind.i64.wrap ((i:Int)-1)=(j:Int):=(IntWalk.i64_in _ ⟨by omega,by omega⟩).trans (by omega);have Qz:¬((i2:Int) <(es.length:Int)):=by omega
 have Jl:(j:Int) <(es.length:Int):=by omega
 have xq:((ses.length:Int) == 2)=true:=by rw[h2];rfl
 have HJ:=aA (kh.joinM (ru.below ik) (fv.below ik) (by omega) (by have:=h.c2;omega) k au);have yq:=aA fun(w1:World) (hF:Frm (fun k=>k=A.ga) w w1)=>eP _ es i (ky es j,.empty,(kd es i:Int)) w1 (hS.slF dw hF) h.hi (by omega);have ts:=aA fun(w1:World) (hF:Frm (fun k=>k=A.ga) w w1)=>(aa w1 j (hF.block g0 vh av) h.hj).1;have kf:=aA kh;have FK:=aA ik;have hX:Hid (kd es j≠kd es i):=h.cs.symm;have ym:Hid (∀w1,Bl w0 w1→w1.cell? ⟨B,0,none⟩=some (.int .i64 k)∧w1.cell? ⟨B,1,none⟩=some (.slice ac ces.length cpc)∧w1.cell? ⟨A.ga,kd es j*2+1,none⟩=some (.slice as1 ses.length cps)):=fun w1 hb=>by
  refine⟨?_,?_,?_⟩
  ·rw[(bo.of (hb.block _ bo.lt)).cell];rfl
  ·rw[(bo.of (hb.block _ bo.lt)).cell];rfl
  ·exact(hb.cell (p:=⟨A.ga,_,none⟩) kh.v.nds.arr.lt).trans e10
 obtain⟨q,hq⟩:=eZ (kd es i);obtain⟨s,hs⟩:=eZ (kd es j);rw[hq]at x2 d0 d1 Fq HJ hX au yq;rw[hs]at y2 e10 GJ hX ym;rw[hq,hs];clear aa fv ru bo kh v0 v1 hq hs AK h2 im;go_enter Tryz.func95,Tryz.ntmps95;go_wp2;go_region_held3 (fun W=>W.cell? ⟨S,1,none⟩=some (.slice (some ⟨A.ga,0,none⟩) A.ns.length (A.ns.length+A.nj.length))∧W.cell? ⟨B,0,none⟩=some (.int .i64 k)∧W.cell? ⟨B,1,none⟩=some (.slice ac ces.length cpc)∧W.cell? ⟨A.ga,s*2+1,none⟩=some (.slice as1 ses.length cps)) (first | assumption | go_keep | exact⟨db,fx,vt,CM⟩ | exact⟨bU wd db,bU zu fx,bU zu vt,aKN hX.out CM⟩) ((go_at_call 108;refine HJ.out.mono ?_;rintro r w1 ⟨⟨y,rfl,DA,ze⟩,ao,db,k0,k1,gi,gx,jl,fz⟩;obtain⟨fx,vt,CM⟩:=ym.out w1 ao));rw[dL DA];obtain⟨⟨A2,ax,DH⟩,du⟩:=kf.out.store ao au ze;have zx:Frm (fun k=>k=A.ga) w (set2 w1 A.ga q y):=(Frm.of_below FK.out).trans du;have Ce:=aA (yq.out _ zx);have yk:(set2 w1 A.ga q y).cell? ⟨g0,o0+j*3,none⟩=some (.string (ky es j)):=ts.out _ zx;have sk:=aA zx;have pu:=aA ax;have Ie:S≠A2.ga:=by rw[DH.ga];exact wd
 have QC:(b:Int) <(A2.ns.length:Int):=by have:=ax.v.ln;have:A2.ns.length=g.cur.length:=this;omega
 have zh:Hid (Fin (setN g q (k,ses++ces)) (mergeF g b q s k (ses++ces) (delE (es.set i (ky es j,.empty,(q:Int))) j)) b (2,delE (es.set i (ky es j,.empty,(q:Int))) j)):=⟨fun x d hx=>sK x d hx,(aW.mergeF ..).cur,pO ..,(aW.mergeF ..).next,(aW.mergeF ..).gen,(aW.mergeF ..).com⟩;generalize set2 w1 A.ga q y=w2 at *;clear db fx vt CM gi gx jl fz ze du zx ax yq ym HJ ts;go_wp2_with fail;refine Ce.out.mono ?_;rintro r w4 ⟨u,rfl,hu,jq⟩;obtain⟨ua,uc,rfl⟩:=hu.sl.len;have aw:=pu.out.below jq;have t4:=aw.cells.2.1;have IA:=aA (aw.withoutM (i:=j) hu.sl (by simp;omega) (by simp;omega) 2 (show b<g.cur.length from d5));have FN:=aA aw;simp only[List.length_set]at *;clear aw hu;go_wp2;go_region_held3 (fun W=>W.cell? ⟨S,1,none⟩=some (.slice (some ⟨A2.ga,0,none⟩) A2.ns.length (A2.ns.length+A2.nj.length))) (first | assumption | go_keep | exact bU Ie db) ((go_at_call 96;refine IA.out.mono ?_;rintro r w3 ⟨⟨z,rfl,Ax,GT⟩,ce,db,k0,k1,gi,gx,jl,fz⟩));rw[dL Ax];have HR:Hid (Zt w S A (mergeF g b q s k (ses++ces) (delE (es.set i (ky es j,.empty,(q:Int))) j)) (set2 w3 A2.ga b z)):=Zt.trans (sk.out.trans (Frm.of_below jq)) DH (FN.out.fin ce (show b<g.cur.length from d5) GT zh.out);clear db gi gx jl fz;go_wp2;go_ret;exact⟨rfl,HR.out⟩
theorem oX(h:Wd g b es i (i+1) k ces ses)(h2:2<ses.length)(w:World)(S:Nat)(A:SA)(hS:Sp w S A g):
  Calls Tryz.prog 95 #[.pointer (some ⟨S,0,none⟩),.int .i64 b,.int .i64 i] w (ZpP w S A ((shadow g (.ent b (i+1))).map fun p=>moveF p.1 b (kd es i) p.2 k (ces++ses.take 1) (ses.drop 1) (es.set (i+1) (ky ses 1,.empty,(p.2:Int))))):=by
 have so:=gS;have Fm:=iT;have rh:=h.ent b _ h.hb;simp only at rh;have d5:=h.ic.lt h.hb;have au:=h.ic.lt h.hc;obtain⟨v0,_⟩:=h.ve.inner h.ic h.hb h.hi;obtain⟨v1,_⟩:=h.ve.inner h.ic h.hb h.hj;obtain⟨_,s1,_⟩:=hS.cells;obtain⟨a,cp,dw,we,_,_,c1,_⟩:=hS.v.nds.at h.hb;obtain⟨ac,cpc,fv,JC,_,d0,d1,_⟩:=hS.v.nds.at h.hc;obtain⟨as1,cps,ru,Rn,_,_,e1,_⟩:=hS.v.nds.at h.hs;simp only at dw c1 fv d0 d1 ru e1;obtain⟨g0,o0,cc,he,vh,aa⟩:=dW dw (by have:=h.hi;omega);cases he;obtain⟨_,_,x2⟩:=aa w i rfl h.hi;have av:g0≠A.ga:=by
  rcases dw with⟨q,_⟩ | ⟨g',o',cap',xs,q,q1,_⟩
  ·cases q
  ·cases q;exact q1.type_ne hS.v.nds.arr (by decide)
 rw[v0]at x2;obtain⟨B,hB⟩:=eZ (w.heap.size);obtain⟨w0,m0⟩:=eZ (w.alloc (.cells #[.int .i64 k,.slice ac ces.length cpc] 108));have ik:=bAl m0;have bo:=iNw m0 hB;obtain⟨_,_,y2⟩:=aa w0 (i+1) (ik.block _ vh) h.hj;rw[v1]at y2;have kh:=hS.below ik;obtain⟨_,t1,_⟩:=kh.cells;have e10:w0.cell? ⟨A.ga,kd es (i+1)*2+1,none⟩=some (.slice as1 ses.length cps):=(ik.cell (p:=⟨A.ga,_,none⟩) hS.v.nds.arr.lt).trans e1;have b0:w0.cell? ⟨B,0,none⟩=some (.int .i64 k):=bo.c rfl;have b1:w0.cell? ⟨B,1,none⟩=some (.slice ac ces.length cpc):=bo.c rfl;have wd:S≠A.ga:=hS.box.type_ne hS.v.nds.arr (by decide);have zu:B≠A.ga:=by have:=hS.v.nds.arr.lt;omega
 have D5:(b:Int) <(A.ns.length:Int):=by omega
 have Fq:(kd es i:Int) <(A.ns.length:Int):=by omega
 have GJ:(kd es (i+1):Int) <(A.ns.length:Int):=by omega
 have Ji:(i:Int) <(es.length:Int):=by have:=h.hi;omega
 obtain⟨i1,je⟩:=eZ (i+1);have wj:IntKind.i64.wrap ((i:Int)+1)=(i1:Int):=(IntWalk.i64_in _ ⟨by omega,by omega⟩).trans (by omega);have Qy:(i1:Int) <(es.length:Int):=by have:=h.hj;omega
 have xq:((ses.length:Int) == 2)=false:=by rw[beq_eq_false_iff_ne];omega
 have C5:=h.ent _ _ h.hs;simp only at C5;have FE:=fun g' c' (q:shadow g (.ent b (i+1))=some (g',c'))=>dC h.ic h.ve h.hb h.hj h.hs q;have yo:=aA (gZ h.ic (fun b d hd=>(by have:=h.ent b d hd;omega:d.2.length≤10)) h.ve w0 S A kh h.r16 b (i+1) es h.hb h.hj);have KY:=aA fun(w1:World) (hF:Frm (fun k=>k=A.ga) w w1)=>hS.slF dw hF;have H7:=aA fun(w1:World) (hF:Frm (fun k=>k=A.ga) w w1)=>hS.slF fv hF;have kf:=aA kh;have FK:=aA ik;have hX:Hid (kd es (i+1)≠kd es i):=h.cs.symm;have ym:Hid (∀w1,Bl w0 w1→w1.cell? ⟨B,0,none⟩=some (.int .i64 k)∧w1.cell? ⟨B,1,none⟩=some (.slice ac ces.length cpc)∧w1.cell? ⟨A.ga,kd es (i+1)*2+1,none⟩=some (.slice as1 ses.length cps)):=fun w1 hb=>by
  refine⟨?_,?_,?_⟩
  ·rw[(bo.of (hb.block _ bo.lt)).cell];rfl
  ·rw[(bo.of (hb.block _ bo.lt)).cell];rfl
  ·exact(hb.cell (p:=⟨A.ga,_,none⟩) kh.v.nds.arr.lt).trans e10
 rw[je]at y2 e10 GJ hX yo FE;rw[je];obtain⟨q,hq⟩:=eZ (kd es i);obtain⟨s,hs⟩:=eZ (kd es i1);have OP:=h.hs;have Gv:=h.hc;have AJ:=h.cs;have ms:=h.bc;rw[je]at OP AJ;rw[hq]at x2 d0 d1 Fq hX au Gv AJ ms;rw[hs]at y2 e10 GJ hX yo OP AJ FE;rw[hq];have UY:Hid (i1<es.length):=by show i1<_;rw[←je];exact h.hj
 have Hw:=aA bo;clear aa fv ru bo kh v0 v1 hq hs je ym;go_enter Tryz.func95,Tryz.ntmps95;go_wp2_with fail;refine yo.out.mono ?_;intro r w3 hz;obtain⟨bu,uu,uv⟩:=hz;cases al:shadow g (.ent b i1)with
 | none=>
  obtain rfl:=uu al;have FO:=aA al;clear uu uv al;go_wp2;go_ret;rw[FO.out];exact⟨fun _=>⟨rfl,(Frm.of_below FK.out).trans bu⟩,fun g q=>by cases q⟩
 | some gc=>
  obtain⟨g',c'⟩:=gc;obtain⟨rfl,A3,f3,cq,BD,Au,bg⟩:=uv g' c' al;obtain⟨n1,n2,n3,n4,n5,n6⟩:=FE g' c' al;have GG:q≠c':=n4 q _ Gv AJ;have Kj:f3.nodes c'=some (k,ses):=by
   have:=bg.sub c' _ n1
   have e:(setN f3 b (2,es.set i1 (ky es i1,.empty,(c':Int)))).nodes c'=f3.nodes c':=aC _ _ n2;rw[e]at this;exact this
  have FY:Frm (fun k=>k=A.ga) w w3:=(Frm.of_below FK.out).trans bu;have EW:f3.cur.length=g.cur.length:=Au;obtain⟨_,t3,_⟩:=cq.cells;obtain⟨as3,cps3,lz,Ro,_,_,f1,Fr⟩:=cq.v.nds.at Kj;simp only at lz f1 Fr;obtain⟨gs,os,cs3',Fv,Bg,gz⟩:=dW lz (by omega);cases Fv;have Jh:gs≠A3.ga:=by
   rcases lz with⟨q,_⟩ | ⟨g',o',cap',xs,q,q1,_⟩
   ·cases q
   ·cases q;exact q1.type_ne cq.v.nds.arr (by decide)
  have wu:B≠A3.ga:=by rw[BD.ga];exact zu
  have ko:IsC w3 B #[.int .i64 k,.slice ac ces.length cpc] 108:=Hw.out.frm bu zu;have Dt:S≠A3.ga:=by rw[BD.ga];exact wd
  have EK:(1:Int)≤(cps3:Int):=by omega
  have yz:¬((c':Int)<0):=by omega
  have QN:(c':Int) <(A3.ns.length:Int):=by omega
  have Re:(q:Int) <(A3.ns.length:Int):=by have:=cq.v.ln;omega
  have HJ:=aA (cq.joinM (H7.out w3 FY) (lz.takeN 1 (by omega) cps3) (by have:=h.c2;omega) (by simp;omega) k (b:=q) (by omega));have p0:w3.cell? ⟨B,0,none⟩=some (.int .i64 k):=ko.c rfl;have p1:w3.cell? ⟨B,1,none⟩=some (.slice ac ces.length cpc):=ko.c rfl;have ym:Hid (∀w1,Bl w3 w1→w1.cell? ⟨B,0,none⟩=some (.int .i64 k)∧w1.cell? ⟨B,1,none⟩=some (.slice ac ces.length cpc)):=fun w1 hb=>by
   refine⟨?_,?_⟩
   ·rw[(ko.of (hb.block _ ko.lt)).cell];rfl
   ·rw[(ko.of (hb.block _ ko.lt)).cell];rfl
  have Sb:=aA cq;have SM:=aA gz;have O8:=aA lz;have Og:=aA ko;clear uu uv gz lz FE;go_wp2;go_region_held3 (fun W=>W.cell? ⟨S,1,none⟩=some (.slice (some ⟨A3.ga,0,none⟩) A3.ns.length (A3.ns.length+A3.nj.length))∧W.cell? ⟨B,0,none⟩=some (.int .i64 k)∧W.cell? ⟨B,1,none⟩=some (.slice ac ces.length cpc)) (first | assumption | go_keep | exact⟨db,fx,vt⟩ | exact⟨bU Dt db,bU wu fx,bU wu vt⟩) ((go_at_call 108;refine HJ.out.mono ?_;rintro r w4 ⟨⟨y,rfl,DA,ze⟩,jq,db,k0,k1,gi,gx,jl,fz⟩;obtain⟨fx,vt⟩:=ym.out w4 jq));rw[dL DA];obtain⟨⟨A5,cw,zt⟩,el⟩:=Sb.out.store (q:=q) jq (by omega) ze;have Ec:=Sb.out.slF O8.out el;have rf:IsC (set2 w4 A3.ga q y) B #[.int .i64 k,.slice ac ces.length cpc] 108:=Og.out.frm el wu;have Gy:(setN f3 q (k,ces++ses.take 1)).cur.length=g.cur.length:=EW;have PV:B≠A5.ga:=by rw[zt.ga];exact wu
  have L8:S≠A5.ga:=by rw[zt.ga];exact Dt
  have BB:=aA (cw.withoutM (i:=0) Ec (by omega) (by omega) k (b:=c') (by omega));have t5:=cw.cells.2.1;have p5:(set2 w4 A3.ga q y).cell? ⟨B,0,none⟩=some (.int .i64 k):=rf.c rfl;have V0:(c':Int) <(A5.ns.length:Int):=by have:=cw.v.ln;omega
  have uw:=aA el;have CD:=aA cw;have PB:=aA Ec;have Hx:=aA rf;obtain⟨w5,sj⟩:=eZ (set2 w4 A3.ga q y);rw[sj]at CD PB BB uw t5 p5 Hx;rw[sj];have DG:Hid (∀w1,Bl w5 w1→w1.cell? ⟨B,0,none⟩=some (.int .i64 k)):=fun w1 hb=>by rw[(Hx.out.of (hb.block _ Hx.out.lt)).cell];rfl
  clear db fx vt gi gx jl fz ze el cw Ec rf HJ ym sj;go_wp2;go_region_held3 (fun W=>W.cell? ⟨S,1,none⟩=some (.slice (some ⟨A5.ga,0,none⟩) A5.ns.length (A5.ns.length+A5.nj.length))∧W.cell? ⟨B,0,none⟩=some (.int .i64 k)) (first | assumption | go_keep | exact⟨db,fx⟩ | exact⟨bU L8 db,bU PV fx⟩) ((go_at_call 96;refine BB.out.mono ?_;rintro r w6 ⟨⟨z,rfl,Ax,GT⟩,kj,db,k0,k1,gi,gx,jl,fz⟩;have fx:=DG.out w6 kj));rw[dL Ax];obtain⟨⟨A7,iz,DZ⟩,Aj⟩:=CD.out.store (q:=c') kj (by omega) GT;have QZ:delE ses 0=ses.drop 1:=by simp[delE]
  rw[QZ]at iz;have BH:Frm (fun k=>k=A3.ga) w3 (set2 w6 A5.ga c' z):=uw.out.trans (Aj.wide fun k _ e=>e.trans zt.ga);have IR:Frm (fun k=>k=A.ga) w (set2 w6 A5.ga c' z):=FY.trans (BH.wide fun k _ e=>e.trans BD.ga);have Ee:=KY.out _ IR;obtain⟨z0,_,_⟩:=SM.out (set2 w6 A5.ga c' z) 1 (BH.block gs Bg Jh) (by omega);have RC:(ses.getD 1 e0).1=ky ses 1:=rfl;rw[RC,Nat.one_mul]at z0;have Kr:(setN (setN f3 q (k,ces++ses.take 1)) c' (k,ses.drop 1)).cur.length=g.cur.length:=EW;have Du:S≠A7.ga:=by rw[DZ.ga];exact L8
  have t7:=iz.cells.2.1;have MJ:(b:Int) <(A7.ns.length:Int):=by have:=iz.v.ln;omega
  have XJ:(1:Int) <(ses.length:Int):=by omega
  have yq:=aA (iz.swapM (i:=i1) (ky ses 1,.empty,(c':Int)) Ee UY.out (by omega) 2 (b:=b) (by omega));have zh:Hid (Fin (setN (setN f3 q (k,ces++ses.take 1)) c' (k,ses.drop 1)) (moveF g' b q c' k (ces++ses.take 1) (ses.drop 1) (es.set i1 (ky ses 1,.empty,(c':Int)))) b (2,es.set i1 (ky ses 1,.empty,(c':Int)))):=by
   refine⟨fun x d' hx=>?_,bg.len,bg.roots,bg.next,bg.gen,bg.com⟩;have bq:upd (upd (upd g'.nodes q (some (k,ces++ses.take 1))) c' (some (k,ses.drop 1))) b (some (2,es.set i1 (ky ses 1,.empty,(c':Int)))) x=some d':=hx;show upd (upd (upd f3.nodes q (some (k,ces++ses.take 1))) c' (some (k,ses.drop 1))) b (some (2,es.set i1 (ky ses 1,.empty,(c':Int)))) x=some d'
   by_cases e1:x=b
   ·rw[e1,aD]at bq ⊢;exact bq
   ·rw[aC _ _ e1]at bq ⊢
    by_cases e2:x=c'
    ·rw[e2,aD]at bq ⊢;exact bq
    ·rw[aC _ _ e2]at bq ⊢
     by_cases e3:x=q
     ·rw[e3,aD]at bq ⊢;exact bq
     ·rw[aC _ _ e3]at bq ⊢
      have:=bg.sub x d' bq
      have e:(setN f3 b (2,es.set i1 (ky es i1,.empty,(c':Int)))).nodes x=f3.nodes x:=aC _ _ e1;rw[e]at this;exact this
  have Oo:=aA IR;have DD:Hid (SaS A A7):=(BD.trans zt).trans DZ;have Ur:=aA iz;have FO:=aA al;have Qu:gs≠A7.ga:=by rw[DZ.ga,zt.ga];exact Jh
  have Mg:gs <(set2 w6 A5.ga c' z).heap.size:=lL Bg BH.size;generalize set2 w6 A5.ga c' z=w7 at *;have U2:Hid (∀w1,Bl w7 w1→w1.cell? ⟨gs,os+3,none⟩=some (.string (ky ses 1))):=fun w1 hb=>(hb.cell (p:=⟨gs,_,none⟩) Mg).trans z0;clear db fx gi gx jl fz GT Aj iz Ee BB DG BH IR al;go_wp2;go_region_held3 (fun W=>W.cell? ⟨S,1,none⟩=some (.slice (some ⟨A7.ga,0,none⟩) A7.ns.length (A7.ns.length+A7.nj.length))∧W.cell? ⟨gs,os+3,none⟩=some (.string (ky ses 1))) (first | assumption | go_keep | exact⟨db,fx⟩ | exact⟨bU Du db,bU Qu fx⟩) ((go_at_call 94;refine yq.out.mono ?_;rintro r w8 ⟨⟨x,rfl,zc,Ac⟩,oh,db,k0,k1,gi,gx,jl,fz⟩;have fx:=U2.out w8 oh));rw[dL zc];have HR:Hid (Zt w S A (moveF g' b q c' k (ces++ses.take 1) (ses.drop 1) (es.set i1 (ky ses 1,.empty,(c':Int)))) (set2 w8 A7.ga b x)):=Zt.trans Oo.out DD.out (Ur.out.fin oh (by omega) Ac zh.out);clear db fx gi gx jl fz;go_wp2;go_ret;rw[FO.out];exact⟨fun q=>(by cases q),fun g2 q2=>(by simp only[Option.map_some,sJ]at q2;subst q2;exact⟨rfl,HR.out⟩)⟩
theorem oW(h:Wd g b es (j+1) j k ces ses)(OT:¬j+1+1<es.length)(h2:2<ses.length)(w:World)(S:Nat)(A:SA)(hS:Sp w S A g):
  Calls Tryz.prog 95 #[.pointer (some ⟨S,0,none⟩),.int .i64 b,.int .i64 ((j+1:Nat):Int)] w (ZpP w S A ((shadow g (.ent b j)).map fun p=>moveF p.1 b p.2 (kd es (j+1)) k (ses.take (ses.length-1)) (ses.drop (ses.length-1)++ces) ((es.set (j+1) (ky ses (ses.length-1),.empty,(kd es (j+1):Int))).set j (ky es j,.empty,(p.2:Int))))):=by
 have so:=gS;have Fm:=iT;obtain⟨i,im⟩:=eZ (j+1);rw[im]at h OT ⊢;have rh:=h.ent b _ h.hb;simp only at rh;have d5:=h.ic.lt h.hb;have au:=h.ic.lt h.hc;obtain⟨v0,_⟩:=h.ve.inner h.ic h.hb h.hi;obtain⟨v1,_⟩:=h.ve.inner h.ic h.hb h.hj;obtain⟨_,s1,_⟩:=hS.cells;obtain⟨a,cp,dw,we,_,_,c1,_⟩:=hS.v.nds.at h.hb;obtain⟨ac,cpc,fv,JC,_,d0,d1,_⟩:=hS.v.nds.at h.hc;obtain⟨as1,cps,ru,Rn,_,_,e1,_⟩:=hS.v.nds.at h.hs;simp only at dw c1 fv d0 d1 ru e1;obtain⟨g0,o0,cc,he,vh,aa⟩:=dW dw (by have:=h.hi;omega);cases he;obtain⟨_,_,x2⟩:=aa w i rfl h.hi;have av:g0≠A.ga:=by
  rcases dw with⟨q,_⟩ | ⟨g',o',cap',xs,q,q1,_⟩
  ·cases q
  ·cases q;exact q1.type_ne hS.v.nds.arr (by decide)
 rw[v0]at x2;obtain⟨B,hB⟩:=eZ (w.heap.size);obtain⟨w0,m0⟩:=eZ (w.alloc (.cells #[.int .i64 k,.slice ac ces.length cpc] 108));have ik:=bAl m0;have bo:=iNw m0 hB;obtain⟨_,_,y2⟩:=aa w0 j (ik.block _ vh) h.hj;rw[v1]at y2;have kh:=hS.below ik;obtain⟨_,t1,_⟩:=kh.cells;have e10:w0.cell? ⟨A.ga,kd es j*2+1,none⟩=some (.slice as1 ses.length cps):=(ik.cell (p:=⟨A.ga,_,none⟩) hS.v.nds.arr.lt).trans e1;have b0:w0.cell? ⟨B,0,none⟩=some (.int .i64 k):=bo.c rfl;have b1:w0.cell? ⟨B,1,none⟩=some (.slice ac ces.length cpc):=bo.c rfl;have wd:S≠A.ga:=hS.box.type_ne hS.v.nds.arr (by decide);have zu:B≠A.ga:=by have:=hS.v.nds.arr.lt;omega
 have D5:(b:Int) <(A.ns.length:Int):=by omega
 have Fq:(kd es i:Int) <(A.ns.length:Int):=by omega
 have GJ:(kd es j:Int) <(A.ns.length:Int):=by omega
 have Ji:(i:Int) <(es.length:Int):=by have:=h.hi;omega
 have Gw:=h.hi;have AL:=h.hj;obtain⟨i2,AK⟩:=eZ (i+1);have wj:IntKind.i64.wrap ((i:Int)+1)=(i2:Int):=(IntWalk.i64_in _ ⟨by omega,by omega⟩).trans (by omega);have Xb:IntKind.i64.wrap ((i:Int)-1)=(j:Int):=(IntWalk.i64_in _ ⟨by omega,by omega⟩).trans (by omega);have Qz:¬((i2:Int) <(es.length:Int)):=by omega
 have Jl:(j:Int) <(es.length:Int):=by omega
 have xq:((ses.length:Int) == 2)=false:=by rw[beq_eq_false_iff_ne];omega
 have C5:=h.ent _ _ h.hs;simp only at C5;have FE:=fun g' c' (q:shadow g (.ent b j)=some (g',c'))=>dC h.ic h.ve h.hb h.hj h.hs q;have yo:=aA (gZ h.ic (fun b d hd=>(by have:=h.ent b d hd;omega:d.2.length≤10)) h.ve w0 S A kh h.r16 b j es h.hb h.hj);have KY:=aA fun(w1:World) (hF:Frm (fun k=>k=A.ga) w w1)=>hS.slF dw hF;have H7:=aA fun(w1:World) (hF:Frm (fun k=>k=A.ga) w w1)=>hS.slF fv hF;have kf:=aA kh;have FK:=aA ik;have hX:Hid (kd es j≠kd es i):=h.cs.symm;have ym:Hid (∀w1,Bl w0 w1→w1.cell? ⟨B,0,none⟩=some (.int .i64 k)∧w1.cell? ⟨B,1,none⟩=some (.slice ac ces.length cpc)∧w1.cell? ⟨A.ga,kd es j*2+1,none⟩=some (.slice as1 ses.length cps)):=fun w1 hb=>by
  refine⟨?_,?_,?_⟩
  ·rw[(bo.of (hb.block _ bo.lt)).cell];rfl
  ·rw[(bo.of (hb.block _ bo.lt)).cell];rfl
  ·exact(hb.cell (p:=⟨A.ga,_,none⟩) kh.v.nds.arr.lt).trans e10
 obtain⟨q,hq⟩:=eZ (kd es i);obtain⟨s,hs⟩:=eZ (kd es j);have OP:=h.hs;have Gv:=h.hc;have AJ:=h.cs;have ms:=h.bc;rw[hq]at x2 d0 d1 Fq hX au Gv AJ ms;rw[hs]at y2 e10 GJ hX yo OP AJ FE;rw[hq];have Hw:=aA bo;clear aa fv ru bo kh v0 v1 hq hs AK ym;go_enter Tryz.func95,Tryz.ntmps95;go_wp2_with fail;refine yo.out.mono ?_;intro r w3 hz;obtain⟨bu,uu,uv⟩:=hz;cases al:shadow g (.ent b j)with
 | none=>
  obtain rfl:=uu al;have FO:=aA al;clear uu uv al;go_wp2;go_ret;rw[FO.out];exact⟨fun _=>⟨rfl,(Frm.of_below FK.out).trans bu⟩,fun g q=>by cases q⟩
 | some gc=>
  obtain⟨g',c'⟩:=gc;obtain⟨rfl,A3,f3,cq,BD,Au,bg⟩:=uv g' c' al;obtain⟨n1,n2,n3,n4,n5,n6⟩:=FE g' c' al;have GG:q≠c':=n4 q _ Gv AJ;have Kj:f3.nodes c'=some (k,ses):=by
   have:=bg.sub c' _ n1
   have e:(setN f3 b (2,es.set j (ky es j,.empty,(c':Int)))).nodes c'=f3.nodes c':=aC _ _ n2;rw[e]at this;exact this
  have FY:Frm (fun k=>k=A.ga) w w3:=(Frm.of_below FK.out).trans bu;have EW:f3.cur.length=g.cur.length:=Au;obtain⟨_,t3,_⟩:=cq.cells;obtain⟨as3,cps3,lz,Ro,_,_,f1,Fr⟩:=cq.v.nds.at Kj;simp only at lz f1 Fr;obtain⟨gs,os,cs3',Fv,Bg,gz⟩:=dW lz (by omega);cases Fv;have Jh:gs≠A3.ga:=by
   rcases lz with⟨q,_⟩ | ⟨g',o',cap',xs,q,q1,_⟩
   ·cases q
   ·cases q;exact q1.type_ne cq.v.nds.arr (by decide)
  have wu:B≠A3.ga:=by rw[BD.ga];exact zu
  have ko:IsC w3 B #[.int .i64 k,.slice ac ces.length cpc] 108:=Hw.out.frm bu zu;have Dt:S≠A3.ga:=by rw[BD.ga];exact wd
  have EK:(1:Int)≤(cps3:Int):=by omega
  have yz:¬((c':Int)<0):=by omega
  have QN:(c':Int) <(A3.ns.length:Int):=by omega
  have Re:(q:Int) <(A3.ns.length:Int):=by have:=cq.v.ln;omega
  obtain⟨n1',My⟩:=eZ (ses.length-1);have R1:IntKind.i64.wrap ((ses.length:Int)-1)=(n1':Int):=(IntWalk.i64_in _ ⟨by omega,by omega⟩).trans (by omega);have RT:(n1':Int) <(ses.length:Int):=by omega
  have GB:n1'<ses.length:=by omega
  obtain⟨q0,q1,q2⟩:=gz w3 n1' rfl GB;obtain⟨L,hL⟩:=eZ (ses.getD n1' e0);rw[hL]at q0 q1 q2;have S6:ky ses n1'=L.1:=by unfold ky;rw[hL]
  obtain⟨B4,dm⟩:=eZ (w3.heap.size);obtain⟨w4,cn⟩:=eZ (w3.alloc (.cells #[.string L.1,.string L.2.1,.int .i64 L.2.2] 110));have D4:=bAl cn;have CO:=iNw cn dm;have aw:=cq.below D4;have IQ:Frm (fun k=>k=A.ga) w w4:=FY.trans (Frm.of_below D4);have kq:=ko.of (D4.block _ ko.lt);have qm:=aA (aw.insM (i:=0) L (H7.out w4 IQ) (by omega) (by have:=h.c2;omega) k (b:=q) (by omega));have t4:=aw.cells.2.1;have p0:w4.cell? ⟨B,0,none⟩=some (.int .i64 k):=kq.c rfl;have p1:w4.cell? ⟨B,1,none⟩=some (.slice ac ces.length cpc):=kq.c rfl;have p2:w4.cell? ⟨B4,0,none⟩=some (.string L.1):=CO.c rfl;have p3:w4.cell? ⟨B4,1,none⟩=some (.string L.2.1):=CO.c rfl;have p4:w4.cell? ⟨B4,2,none⟩=some (.int .i64 L.2.2):=CO.c rfl;have ym:Hid (∀w1,Bl w4 w1→w1.cell? ⟨B,0,none⟩=some (.int .i64 k)∧w1.cell? ⟨B,1,none⟩=some (.slice ac ces.length cpc)∧w1.cell? ⟨B4,0,none⟩=some (.string L.1)∧w1.cell? ⟨B4,1,none⟩=some (.string L.2.1)∧w1.cell? ⟨B4,2,none⟩=some (.int .i64 L.2.2)):=fun w1 hb=>by
   refine⟨?_,?_,?_,?_,?_⟩
   ·rw[(kq.of (hb.block _ kq.lt)).cell];rfl
   ·rw[(kq.of (hb.block _ kq.lt)).cell];rfl
   ·rw[(CO.of (hb.block _ CO.lt)).cell];rfl
   ·rw[(CO.of (hb.block _ CO.lt)).cell];rfl
   ·rw[(CO.of (hb.block _ CO.lt)).cell];rfl
  have Db:B4≠A3.ga:=by have:=cq.v.nds.arr.lt;omega
  have FN:=aA aw;have SM:=aA gz;have O9:=aA (lz.below D4);have Oh:=aA kq;have LI:=aA CO;have On:=aA IQ;have Nr:=aA (aI My (aI hL S6));clear uu uv gz lz FE CO kq aw D4 IQ My hL S6;go_wp2;go_region_held3 (fun W=>W.cell? ⟨S,1,none⟩=some (.slice (some ⟨A3.ga,0,none⟩) A3.ns.length (A3.ns.length+A3.nj.length))∧W.cell? ⟨B,0,none⟩=some (.int .i64 k)∧W.cell? ⟨B,1,none⟩=some (.slice ac ces.length cpc)∧W.cell? ⟨B4,0,none⟩=some (.string L.1)∧W.cell? ⟨B4,1,none⟩=some (.string L.2.1)∧W.cell? ⟨B4,2,none⟩=some (.int .i64 L.2.2)) (first | assumption | go_keep | exact⟨db,fx,vt,CM,Im,Fl⟩ | exact⟨bU Dt db,bU wu fx,bU wu vt,bU Db CM,bU Db Im,bU Db Fl⟩) ((go_at_call 109;refine qm.out.mono ?_;rintro r w5 ⟨⟨y,rfl,DA,ze⟩,et,db,k0,k1,gi,gx,jl,fz⟩;obtain⟨fx,vt,CM,Im,Fl⟩:=ym.out w5 et));rw[dL DA];obtain⟨⟨A6,la,N6⟩,Ci⟩:=FN.out.store (q:=q) et (by omega) ze;have Ed:=FN.out.slF O9.out Ci;have qe:IsC (set2 w5 A3.ga q y) B #[.int .i64 k,.slice ac ces.length cpc] 108:=Oh.out.frm Ci wu;have MK:IsC (set2 w5 A3.ga q y) B4 #[.string L.1,.string L.2.1,.int .i64 L.2.2] 110:=LI.out.frm Ci Db;have YI:(setN f3 q (k,insE ces 0 L)).cur.length=g.cur.length:=EW;have PW:B≠A6.ga:=by rw[N6.ga];exact wu
  have L9:S≠A6.ga:=by rw[N6.ga];exact Dt
  have BB:=aA (la.withoutM (i:=n1') Ed GB (by omega) k (b:=c') (by omega));have t6:=la.cells.2.1;have p6:(set2 w5 A3.ga q y).cell? ⟨B,0,none⟩=some (.int .i64 k):=qe.c rfl;have V1:(c':Int) <(A6.ns.length:Int):=by have:=la.v.ln;omega
  have SQ:=aA Ci;have Nz:=aA la;have Hy:=aA qe;have Of:=aA MK;obtain⟨w6,rx⟩:=eZ (set2 w5 A3.ga q y);rw[rx]at Nz BB SQ t6 p6 Hy Of;rw[rx];have zn:Hid (∀w1,Bl w6 w1→w1.cell? ⟨B,0,none⟩=some (.int .i64 k)):=fun w1 hb=>by rw[(Hy.out.of (hb.block _ Hy.out.lt)).cell];rfl
  clear db fx vt CM Im Fl gi gx jl fz ze Ci la Ed qe MK qm ym rx;go_wp2;go_region_held3 (fun W=>W.cell? ⟨S,1,none⟩=some (.slice (some ⟨A6.ga,0,none⟩) A6.ns.length (A6.ns.length+A6.nj.length))∧W.cell? ⟨B,0,none⟩=some (.int .i64 k)) (first | assumption | go_keep | exact⟨db,fx⟩ | exact⟨bU L9 db,bU PW fx⟩) ((go_at_call 96;refine BB.out.mono ?_;rintro r w7 ⟨⟨z,rfl,Ax,GT⟩,vf,db,k0,k1,gi,gx,jl,fz⟩;have fx:=zn.out w7 vf));rw[dL Ax];obtain⟨⟨A8,ni,Sq⟩,yu⟩:=Nz.out.store (q:=c') vf (by omega) GT;have IN:Frm (fun k=>k=A3.ga) w4 (set2 w7 A6.ga c' z):=SQ.out.trans (yu.wide fun k _ e=>e.trans N6.ga);have IS:Frm (fun k=>k=A.ga) w (set2 w7 A6.ga c' z):=On.out.trans (IN.wide fun k _ e=>e.trans BD.ga);have NJ:=KY.out _ IS;have ML:IsC (set2 w7 A6.ga c' z) B4 #[.string L.1,.string L.2.1,.int .i64 L.2.2] 110:=LI.out.frm IN Db;have r0:(set2 w7 A6.ga c' z).cell? ⟨B4,0,none⟩=some (.string L.1):=ML.c rfl;have yq:=aA (eP _ es i (L.1,.empty,(q:Int)) (set2 w7 A6.ga c' z) NJ Gw (by omega));have YJ:(setN (setN f3 q (k,insE ces 0 L)) c' (k,delE ses n1')).cur.length=g.cur.length:=EW;have P2:S≠A8.ga:=by rw[Sq.ga];exact L9
  have Vr:(b:Int) <(A8.ns.length:Int):=by have:=ni.v.ln;omega
  have Oq:=aA IS;have UM:Hid (SaS A A8):=(BD.trans N6).trans Sq;have Us:=aA ni;have FO:=aA al;generalize set2 w7 A6.ga c' z=w8 at *;clear db fx gi gx jl fz GT yu ni NJ BB zn IN IS al ML;go_wp2_with fail;refine yq.out.mono ?_;rintro r w9 ⟨u,rfl,hu,fu⟩;have py:=Us.out.below fu;have t9:=py.cells.2.1;have OW:(es.set i (L.1,.empty,(q:Int))).length=es.length:=List.length_set ..;obtain⟨gu,ou,cu',rfl,WO,EJ⟩:=dW hu.sl (by omega);obtain⟨g0',_,_⟩:=EJ w9 j rfl (by omega);have Tq:((es.set i (L.1,.empty,(q:Int))).getD j e0).1=ky es j:=by rw[bA _ _ _ _ _ Gw,if_neg (by omega)];rfl
  rw[Tq]at g0';have Ce:=aA (py.swapM (i:=j) (ky es j,.empty,(c':Int)) hu.sl (by omega) (by omega) 2 (b:=b) (by omega));have Ut:=aA py;have Qv:gu≠A8.ga:=by
   rcases hu.sl with⟨q,_⟩ | ⟨g',o',cap',xs,q,q1,_⟩
   ·cases q
   ·cases q;exact q1.type_ne py.v.nds.arr (by decide)
  have U3:Hid (∀w1,Bl w9 w1→w1.cell? ⟨gu,ou+j*3,none⟩=some (.string (ky es j))):=fun w1 hb=>(hb.cell (p:=⟨gu,_,none⟩) WO).trans g0';rw[OW]at Ce;rw[OW];have Xu:=aA OW;clear py hu EJ Tq OW;go_wp2;go_region_held3 (fun W=>W.cell? ⟨S,1,none⟩=some (.slice (some ⟨A8.ga,0,none⟩) A8.ns.length (A8.ns.length+A8.nj.length))∧W.cell? ⟨gu,ou+j*3,none⟩=some (.string (ky es j))) (first | assumption | go_keep | exact⟨db,fx⟩ | exact⟨bU P2 db,bU Qv fx⟩) ((go_at_call 94;refine Ce.out.mono ?_;rintro r w10 ⟨⟨x,rfl,zc,Ac⟩,AA,db,k0,k1,gi,gx,jl,fz⟩;have fx:=U3.out w10 AA));rw[dL zc];obtain⟨m1,m2,m3⟩:=Nr.out;have fe:delE ses n1'=ses.take n1':=by unfold delE;rw[List.drop_of_length_le (by omega),List.append_nil]
  have ku:insE ces 0 L=ses.drop n1'++ces:=by
   unfold insE;have hx:ses.drop (n1'+1)=[]:=List.drop_of_length_le (by omega);have:ses[n1']=L:=by rw[←m2,gD,gE GB];rfl
   rw[List.drop_eq_getElem_cons GB,hx,this];rfl
  have S0:Fin (setN (setN f3 q (k,insE ces 0 L)) c' (k,delE ses n1')) (moveF g' b c' q k (ses.take (ses.length-1)) (ses.drop (ses.length-1)++ces) ((es.set i (ky ses (ses.length-1),.empty,(q:Int))).set j (ky es j,.empty,(c':Int)))) b (2,(es.set i (L.1,.empty,(q:Int))).set j (ky es j,.empty,(c':Int))):=by
   rw[m1,ku,fe,m3];refine⟨fun x d' hx=>?_,bg.len,bg.roots,bg.next,bg.gen,bg.com⟩;generalize (es.set i (L.1,.empty,(q:Int))).set j (ky es j,.empty,(c':Int))=pes at *;have bq:upd (upd (upd g'.nodes c' (some (k,ses.take n1'))) q (some (k,ses.drop n1'++ces))) b (some (2,pes)) x=some d':=hx;show upd (upd (upd f3.nodes q (some (k,ses.drop n1'++ces))) c' (some (k,ses.take n1'))) b (some (2,pes)) x=some d'
   by_cases e1:x=b
   ·rw[e1,aD]at bq ⊢;exact bq
   ·rw[aC _ _ e1]at bq ⊢
    by_cases e2:x=c'
    ·rw[e2,aC _ _ (Ne.symm GG),aD]at bq
     rw[e2,aD];exact bq
    ·rw[aC _ _ e2]
     by_cases e3:x=q
     ·rw[e3,aD]at bq ⊢;exact bq
     ·rw[aC _ _ e3,aC _ _ e2]at bq
      rw[aC _ _ e3];have:=bg.sub x d' bq;have e:(setN f3 b (2,es.set j (ky es j,.empty,(c':Int)))).nodes x=f3.nodes x:=aC _ _ e1;rw[e]at this;exact this
  have HR:Hid (Zt w S A (moveF g' b c' q k (ses.take (ses.length-1)) (ses.drop (ses.length-1)++ces) ((es.set i (ky ses (ses.length-1),.empty,(q:Int))).set j (ky es j,.empty,(c':Int)))) (set2 w10 A8.ga b x)):=Zt.trans (Oq.out.trans (Frm.of_below fu)) UM.out (Ut.out.fin AA (by omega) Ac S0);clear db fx gi gx jl fz S0 ku fe m1 m2 m3;go_wp2;go_ret;rw[FO.out];exact⟨fun q=>(by cases q),fun g2 q2=>(by simp only[Option.map_some,sJ]at q2;subst q2;exact⟨rfl,HR.out⟩)⟩
