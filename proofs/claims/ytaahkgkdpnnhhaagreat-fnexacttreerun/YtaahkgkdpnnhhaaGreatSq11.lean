import Derived.Test.YtaahkgkdpnnhhaaGreatSq9
set_option maxHeartbeats 9999999
set_option maxRecDepth 99999
set_option linter.all false
namespace Go.Proofs.YtaahkgkdpnnhhaaGreat
open Go.RowKit Fo
theorem oK{g:fZ}{b j:Nat}{es:List E3}{k:Int}{ces ses:List E3}(h:Wd g b es (j+1) j k ces ses)(hla:¬j+1+1<es.length)(h2:ses.length=2)(w:World)(S:Nat)(A:SA)(hS:Sp w S A g):
  Calls Tryz.prog 95 #[.pointer (some ⟨S,0,none⟩),.int .i64 b,.int .i64 ((j+1:Nat):Int)] w fun e w'=>e=.returned (.bool true)∧Zt w S A (mergeF g b (kd es (j+1)) (kd es j) k (ses++ces) (delE (es.set (j+1) (ky es j,.empty,(kd es (j+1):Int))) j)) w':=by
 have hbn:=gQ;have hbe:=iT;obtain⟨i,hij⟩:=eZ (j+1);rw[hij]at h hla ⊢;have hel:=h.ent b _ h.hb;simp only at hel;have hbl:=h.ic.lt h.hb;have hcl:=h.ic.lt h.hc;obtain⟨v0,_⟩:=h.ve.inner h.ic h.hb h.hi;obtain⟨v1,_⟩:=h.ve.inner h.ic h.hb h.hj;obtain⟨_,s1,_⟩:=hS.cells;obtain⟨a,cp,hsl,hbA,_,_,c1,_⟩:=hS.v.nds.at h.hb;obtain⟨ac,cpc,hslc,hcA,_,d0,d1,_⟩:=hS.v.nds.at h.hc;obtain⟨as1,cps,hsls,hsA,_,_,e1,_⟩:=hS.v.nds.at h.hs;simp only at hsl c1 hslc d0 d1 hsls e1;obtain⟨g0,o0,cc,he,hg0,hcell⟩:=dZ hsl (by have:=h.hi;omega);cases he;obtain⟨_,_,x2⟩:=hcell w i rfl h.hi;have hne:g0≠A.ga:=by
  rcases hsl with⟨q,_⟩ | ⟨g',o',cap',xs,q,q1,_⟩
  ·cases q
  ·cases q;exact q1.type_ne hS.v.nds.arr (by decide)
 rw[v0]at x2;obtain⟨B,hB⟩:=eZ (w.heap.size);obtain⟨w0,hw0⟩:=eZ (w.alloc (.cells #[.int .i64 k,.slice ac ces.length cpc] 108));have hb0:=bAl hw0;have hbx:=iNw hw0 hB;obtain⟨y0,_,y2⟩:=hcell w0 j (hb0.block _ hg0) h.hj;rw[v1]at y0 y2;have hS0:=hS.below hb0;obtain⟨_,t1,_⟩:=hS0.cells;have e10:w0.cell? ⟨A.ga,kd es j*2+1,none⟩=some (.slice as1 ses.length cps):=(hb0.cell (p:=⟨A.ga,_,none⟩) hS.v.nds.arr.lt).trans e1;have b0:w0.cell? ⟨B,0,none⟩=some (.int .i64 k):=hbx.c rfl;have b1:w0.cell? ⟨B,1,none⟩=some (.slice ac ces.length cpc):=hbx.c rfl;have hSg:S≠A.ga:=hS.box.type_ne hS.v.nds.arr (by decide);have hBg:B≠A.ga:=by have:=hS.v.nds.arr.lt;omega
 have hbI:(b:Int) <(A.ns.length:Int):=by omega
 have hcI:(kd es i:Int) <(A.ns.length:Int):=by omega
 have hsI:(kd es j:Int) <(A.ns.length:Int):=by omega
 have hiI:(i:Int) <(es.length:Int):=by have:=h.hi;omega
 have hi0:=h.hi;have hj0:=h.hj;obtain⟨i2,hi2⟩:=eZ (i+1);have hwr:IntKind.i64.wrap ((i:Int)+1)=(i2:Int):=(IntWalk.i64_in _ ⟨by omega,by omega⟩).trans (by omega);have hwj:IntKind.i64.wrap ((i:Int)-1)=(j:Int):=(IntWalk.i64_in _ ⟨by omega,by omega⟩).trans (by omega);have hi2I:¬((i2:Int) <(es.length:Int)):=by omega
 have hjI:(j:Int) <(es.length:Int):=by omega
 have hf2:((ses.length:Int) == 2)=true:=by rw[h2];rfl
 have HJ:=aA (hS0.joinM (hsls.below hb0) (hslc.below hb0) (by omega) (by have:=h.c2;omega) k hcl);have HSW:=aA fun(w1:World) (hF:Frm (fun k=>k=A.ga) w w1)=>eR _ es i (ky es j,.empty,(kd es i:Int)) w1 (hS.slF hsl hF) h.hi (by omega);have HCE:=aA fun(w1:World) (hF:Frm (fun k=>k=A.ga) w w1)=>(hcell w1 j (hF.block g0 hg0 hne) h.hj).1;have HSZ:=aA hS0;have HB0:=aA hb0;have hX:Hid (kd es j≠kd es i):=h.cs.symm;have HGO:Hid (∀w1,Bl w0 w1→w1.cell? ⟨B,0,none⟩=some (.int .i64 k)∧w1.cell? ⟨B,1,none⟩=some (.slice ac ces.length cpc)∧w1.cell? ⟨A.ga,kd es j*2+1,none⟩=some (.slice as1 ses.length cps)):=fun w1 hb=>by
  refine⟨?_,?_,?_⟩
  ·rw[(hbx.of (hb.block _ hbx.lt)).cell];rfl
  ·rw[(hbx.of (hb.block _ hbx.lt)).cell];rfl
  ·exact(hb.cell (p:=⟨A.ga,_,none⟩) hS0.v.nds.arr.lt).trans e10
 obtain⟨q,hq⟩:=eZ (kd es i);obtain⟨s,hs⟩:=eZ (kd es j);rw[hq]at x2 d0 d1 hcI HJ hX hcl HSW;rw[hs]at y2 e10 hsI hX HGO;rw[hq,hs];clear hcell hslc hsls hbx hS0 v0 v1 hq hs hi2 h2 hij;go_enter Tryz.func95,Tryz.ntmps95;go_wp2;go_region_held3 (fun W=>W.cell? ⟨S,1,none⟩=some (.slice (some ⟨A.ga,0,none⟩) A.ns.length (A.ns.length+A.nj.length))∧W.cell? ⟨B,0,none⟩=some (.int .i64 k)∧W.cell? ⟨B,1,none⟩=some (.slice ac ces.length cpc)∧W.cell? ⟨A.ga,s*2+1,none⟩=some (.slice as1 ses.length cps)) (first | assumption | go_keep | exact⟨hX1,hX2,hX3,hX4⟩ | exact⟨bV hSg hX1,bV hBg hX2,bV hBg hX3,aKI hX.out hX4⟩) ((go_at_call 108;refine HJ.out.mono ?_;rintro r w1 ⟨⟨y,rfl,hyk,hyN⟩,hb1,hX1,k0,k1,hk0,hk1,hz0,hz1⟩;obtain⟨hX2,hX3,hX4⟩:=HGO.out w1 hb1));rw[dG hyk];obtain⟨⟨A2,hS2,hA2⟩,hF2⟩:=HSZ.out.store hb1 hcl hyN;have hF2w:Frm (fun k=>k=A.ga) w (set2 w1 A.ga q y):=(Frm.of_below HB0.out).trans hF2;have HSW2:=aA (HSW.out _ hF2w);have yk:(set2 w1 A.ga q y).cell? ⟨g0,o0+j*3,none⟩=some (.string (ky es j)):=HCE.out _ hF2w;have HF2:=aA hF2w;have HS2:=aA hS2;have hSg2:S≠A2.ga:=by rw[hA2.ga];exact hSg
 have hbI2:(b:Int) <(A2.ns.length:Int):=by have:=hS2.v.ln;have:A2.ns.length=g.cur.length:=this;omega
 have HFI:Hid (Fin (setN g q (k,ses++ces)) (mergeF g b q s k (ses++ces) (delE (es.set i (ky es j,.empty,(q:Int))) j)) b (2,delE (es.set i (ky es j,.empty,(q:Int))) j)):=⟨fun x d hx=>rR x d hx,(aW.mergeF ..).cur,pH ..,(aW.mergeF ..).next,(aW.mergeF ..).gen,(aW.mergeF ..).com⟩;generalize set2 w1 A.ga q y=w2 at *;clear hX1 hX2 hX3 hX4 hk0 hk1 hz0 hz1 hyN hF2 hF2w hS2 HSW HGO HJ HCE;go_wp2_with fail;refine HSW2.out.mono ?_;rintro r w4 ⟨u,rfl,hu,hb4⟩;obtain⟨ua,uc,rfl⟩:=hu.sl.len;have hS4:=HS2.out.below hb4;have t4:=hS4.cells.2.1;have HWO2:=aA (hS4.withoutM (i:=j) hu.sl (by simp;omega) (by simp;omega) 2 (show b<g.cur.length from hbl));have HS4:=aA hS4;simp only[List.length_set]at *;clear hS4 hu;go_wp2;go_region_held3 (fun W=>W.cell? ⟨S,1,none⟩=some (.slice (some ⟨A2.ga,0,none⟩) A2.ns.length (A2.ns.length+A2.nj.length))) (first | assumption | go_keep | exact bV hSg2 hX1) ((go_at_call 96;refine HWO2.out.mono ?_;rintro r w3 ⟨⟨z,rfl,hzk,hzN⟩,hb3,hX1,k0,k1,hk0,hk1,hz0,hz1⟩));rw[dG hzk];have HR:Hid (Zt w S A (mergeF g b q s k (ses++ces) (delE (es.set i (ky es j,.empty,(q:Int))) j)) (set2 w3 A2.ga b z)):=Zt.trans (HF2.out.trans (Frm.of_below hb4)) hA2 (HS4.out.fin hb3 (show b<g.cur.length from hbl) hzN HFI.out);clear hX1 hk0 hk1 hz0 hz1;go_wp2;go_ret;exact⟨rfl,HR.out⟩
theorem oS{g:fZ}{b i:Nat}{es:List E3}{k:Int}{ces ses:List E3}(h:Wd g b es i (i+1) k ces ses)(h2:2<ses.length)(w:World)(S:Nat)(A:SA)(hS:Sp w S A g):
  Calls Tryz.prog 95 #[.pointer (some ⟨S,0,none⟩),.int .i64 b,.int .i64 i] w (ZpP w S A ((shadow g (.ent b (i+1))).map fun p=>moveF p.1 b (kd es i) p.2 k (ces++ses.take 1) (ses.drop 1) (es.set (i+1) (ky ses 1,.empty,(p.2:Int))))):=by
 have hbn:=gQ;have hbe:=iT;have hel:=h.ent b _ h.hb;simp only at hel;have hbl:=h.ic.lt h.hb;have hcl:=h.ic.lt h.hc;obtain⟨v0,_⟩:=h.ve.inner h.ic h.hb h.hi;obtain⟨v1,_⟩:=h.ve.inner h.ic h.hb h.hj;obtain⟨_,s1,_⟩:=hS.cells;obtain⟨a,cp,hsl,hbA,_,_,c1,_⟩:=hS.v.nds.at h.hb;obtain⟨ac,cpc,hslc,hcA,_,d0,d1,_⟩:=hS.v.nds.at h.hc;obtain⟨as1,cps,hsls,hsA,_,_,e1,_⟩:=hS.v.nds.at h.hs;simp only at hsl c1 hslc d0 d1 hsls e1;obtain⟨g0,o0,cc,he,hg0,hcell⟩:=dZ hsl (by have:=h.hi;omega);cases he;obtain⟨_,_,x2⟩:=hcell w i rfl h.hi;have hne:g0≠A.ga:=by
  rcases hsl with⟨q,_⟩ | ⟨g',o',cap',xs,q,q1,_⟩
  ·cases q
  ·cases q;exact q1.type_ne hS.v.nds.arr (by decide)
 rw[v0]at x2;obtain⟨B,hB⟩:=eZ (w.heap.size);obtain⟨w0,hw0⟩:=eZ (w.alloc (.cells #[.int .i64 k,.slice ac ces.length cpc] 108));have hb0:=bAl hw0;have hbx:=iNw hw0 hB;obtain⟨_,_,y2⟩:=hcell w0 (i+1) (hb0.block _ hg0) h.hj;rw[v1]at y2;have hS0:=hS.below hb0;obtain⟨_,t1,_⟩:=hS0.cells;have e10:w0.cell? ⟨A.ga,kd es (i+1)*2+1,none⟩=some (.slice as1 ses.length cps):=(hb0.cell (p:=⟨A.ga,_,none⟩) hS.v.nds.arr.lt).trans e1;have b0:w0.cell? ⟨B,0,none⟩=some (.int .i64 k):=hbx.c rfl;have b1:w0.cell? ⟨B,1,none⟩=some (.slice ac ces.length cpc):=hbx.c rfl;have hSg:S≠A.ga:=hS.box.type_ne hS.v.nds.arr (by decide);have hBg:B≠A.ga:=by have:=hS.v.nds.arr.lt;omega
 have hbI:(b:Int) <(A.ns.length:Int):=by omega
 have hcI:(kd es i:Int) <(A.ns.length:Int):=by omega
 have hsI:(kd es (i+1):Int) <(A.ns.length:Int):=by omega
 have hiI:(i:Int) <(es.length:Int):=by have:=h.hi;omega
 obtain⟨i1,hi1⟩:=eZ (i+1);have hwr:IntKind.i64.wrap ((i:Int)+1)=(i1:Int):=(IntWalk.i64_in _ ⟨by omega,by omega⟩).trans (by omega);have hi1I:(i1:Int) <(es.length:Int):=by have:=h.hj;omega
 have hf2:((ses.length:Int) == 2)=false:=by rw[beq_eq_false_iff_ne];omega
 have hsl5:=h.ent _ _ h.hs;simp only at hsl5;have hsn:=fun g' c' (q:shadow g (.ent b (i+1))=some (g',c'))=>dB h.ic h.ve h.hb h.hj h.hs q;have HSH:=aA (gU h.ic (fun b d hd=>(by have:=h.ent b d hd;omega:d.2.length≤10)) h.ve w0 S A hS0 h.r16 b (i+1) es h.hb h.hj);have HSL:=aA fun(w1:World) (hF:Frm (fun k=>k=A.ga) w w1)=>hS.slF hsl hF;have HSLC:=aA fun(w1:World) (hF:Frm (fun k=>k=A.ga) w w1)=>hS.slF hslc hF;have HSZ:=aA hS0;have HB0:=aA hb0;have hX:Hid (kd es (i+1)≠kd es i):=h.cs.symm;have HGO:Hid (∀w1,Bl w0 w1→w1.cell? ⟨B,0,none⟩=some (.int .i64 k)∧w1.cell? ⟨B,1,none⟩=some (.slice ac ces.length cpc)∧w1.cell? ⟨A.ga,kd es (i+1)*2+1,none⟩=some (.slice as1 ses.length cps)):=fun w1 hb=>by
  refine⟨?_,?_,?_⟩
  ·rw[(hbx.of (hb.block _ hbx.lt)).cell];rfl
  ·rw[(hbx.of (hb.block _ hbx.lt)).cell];rfl
  ·exact(hb.cell (p:=⟨A.ga,_,none⟩) hS0.v.nds.arr.lt).trans e10
 rw[hi1]at y2 e10 hsI hX HSH hsn;rw[hi1];obtain⟨q,hq⟩:=eZ (kd es i);obtain⟨s,hs⟩:=eZ (kd es i1);have hhs:=h.hs;have hhc:=h.hc;have hhcs:=h.cs;have hbc:=h.bc;rw[hi1]at hhs hhcs;rw[hq]at x2 d0 d1 hcI hX hcl hhc hhcs hbc;rw[hs]at y2 e10 hsI hX HSH hhs hhcs hsn;rw[hq];have HHJ:Hid (i1<es.length):=by show i1<_;rw[←hi1];exact h.hj
 have HBX:=aA hbx;clear hcell hslc hsls hbx hS0 v0 v1 hq hs hi1 HGO;go_enter Tryz.func95,Tryz.ntmps95;go_wp2_with fail;refine HSH.out.mono ?_;intro r w3 hz;obtain⟨hF3,hzn,hzy⟩:=hz;cases hsh:shadow g (.ent b i1)with
 | none=>
  obtain rfl:=hzn hsh;have HSN:=aA hsh;clear hzn hzy hsh;go_wp2;go_ret;rw[HSN.out];exact⟨fun _=>⟨rfl,(Frm.of_below HB0.out).trans hF3⟩,fun g q=>by cases q⟩
 | some gc=>
  obtain⟨g',c'⟩:=gc;obtain⟨rfl,A3,f3,hS3,hA3,hlf,hfin⟩:=hzy g' c' hsh;obtain⟨n1,n2,n3,n4,n5,n6⟩:=hsn g' c' hsh;have hqc:q≠c':=n4 q _ hhc hhcs;have hc3:f3.nodes c'=some (k,ses):=by
   have:=hfin.sub c' _ n1
   have e:(setN f3 b (2,es.set i1 (ky es i1,.empty,(c':Int)))).nodes c'=f3.nodes c':=aC _ _ n2;rw[e]at this;exact this
  have hFw3:Frm (fun k=>k=A.ga) w w3:=(Frm.of_below HB0.out).trans hF3;have hl3:f3.cur.length=g.cur.length:=hlf;obtain⟨_,t3,_⟩:=hS3.cells;obtain⟨as3,cps3,hsl3,hsA3,_,_,f1,hcp3⟩:=hS3.v.nds.at hc3;simp only at hsl3 f1 hcp3;obtain⟨gs,os,cs3',he3,hgs,hcell3⟩:=dZ hsl3 (by omega);cases he3;have hgsn:gs≠A3.ga:=by
   rcases hsl3 with⟨q,_⟩ | ⟨g',o',cap',xs,q,q1,_⟩
   ·cases q
   ·cases q;exact q1.type_ne hS3.v.nds.arr (by decide)
  have hBg3:B≠A3.ga:=by rw[hA3.ga];exact hBg
  have hbx3:IsC w3 B #[.int .i64 k,.slice ac ces.length cpc] 108:=HBX.out.frm hF3 hBg;have hSg3:S≠A3.ga:=by rw[hA3.ga];exact hSg
  have hcp1:(1:Int)≤(cps3:Int):=by omega
  have hc0:¬((c':Int)<0):=by omega
  have hcI3:(c':Int) <(A3.ns.length:Int):=by omega
  have hqI3:(q:Int) <(A3.ns.length:Int):=by have:=hS3.v.ln;omega
  have HJ:=aA (hS3.joinM (HSLC.out w3 hFw3) (hsl3.takeN 1 (by omega) cps3) (by have:=h.c2;omega) (by simp;omega) k (b:=q) (by omega));have p0:w3.cell? ⟨B,0,none⟩=some (.int .i64 k):=hbx3.c rfl;have p1:w3.cell? ⟨B,1,none⟩=some (.slice ac ces.length cpc):=hbx3.c rfl;have HGO:Hid (∀w1,Bl w3 w1→w1.cell? ⟨B,0,none⟩=some (.int .i64 k)∧w1.cell? ⟨B,1,none⟩=some (.slice ac ces.length cpc)):=fun w1 hb=>by
   refine⟨?_,?_⟩
   ·rw[(hbx3.of (hb.block _ hbx3.lt)).cell];rfl
   ·rw[(hbx3.of (hb.block _ hbx3.lt)).cell];rfl
  have HS3:=aA hS3;have HC3:=aA hcell3;have HSL3:=aA hsl3;have HBX3:=aA hbx3;clear hzn hzy hcell3 hsl3 hsn;go_wp2;go_region_held3 (fun W=>W.cell? ⟨S,1,none⟩=some (.slice (some ⟨A3.ga,0,none⟩) A3.ns.length (A3.ns.length+A3.nj.length))∧W.cell? ⟨B,0,none⟩=some (.int .i64 k)∧W.cell? ⟨B,1,none⟩=some (.slice ac ces.length cpc)) (first | assumption | go_keep | exact⟨hX1,hX2,hX3⟩ | exact⟨bV hSg3 hX1,bV hBg3 hX2,bV hBg3 hX3⟩) ((go_at_call 108;refine HJ.out.mono ?_;rintro r w4 ⟨⟨y,rfl,hyk,hyN⟩,hb4,hX1,k0,k1,hk0,hk1,hz0,hz1⟩;obtain⟨hX2,hX3⟩:=HGO.out w4 hb4));rw[dG hyk];obtain⟨⟨A5,hS5,hA5⟩,hF5⟩:=HS3.out.store (q:=q) hb4 (by omega) hyN;have hsl5w:=HS3.out.slF HSL3.out hF5;have hbx5:IsC (set2 w4 A3.ga q y) B #[.int .i64 k,.slice ac ces.length cpc] 108:=HBX3.out.frm hF5 hBg3;have hl5:(setN f3 q (k,ces++ses.take 1)).cur.length=g.cur.length:=hl3;have hBg5:B≠A5.ga:=by rw[hA5.ga];exact hBg3
  have hSg5:S≠A5.ga:=by rw[hA5.ga];exact hSg3
  have HWO:=aA (hS5.withoutM (i:=0) hsl5w (by omega) (by omega) k (b:=c') (by omega));have t5:=hS5.cells.2.1;have p5:(set2 w4 A3.ga q y).cell? ⟨B,0,none⟩=some (.int .i64 k):=hbx5.c rfl;have hcI5:(c':Int) <(A5.ns.length:Int):=by have:=hS5.v.ln;omega
  have HF5:=aA hF5;have HS5:=aA hS5;have HSL5:=aA hsl5w;have HBX5:=aA hbx5;obtain⟨w5,hw5⟩:=eZ (set2 w4 A3.ga q y);rw[hw5]at HS5 HSL5 HWO HF5 t5 p5 HBX5;rw[hw5];have HG5:Hid (∀w1,Bl w5 w1→w1.cell? ⟨B,0,none⟩=some (.int .i64 k)):=fun w1 hb=>by rw[(HBX5.out.of (hb.block _ HBX5.out.lt)).cell];rfl
  clear hX1 hX2 hX3 hk0 hk1 hz0 hz1 hyN hF5 hS5 hsl5w hbx5 HJ HGO hw5;go_wp2;go_region_held3 (fun W=>W.cell? ⟨S,1,none⟩=some (.slice (some ⟨A5.ga,0,none⟩) A5.ns.length (A5.ns.length+A5.nj.length))∧W.cell? ⟨B,0,none⟩=some (.int .i64 k)) (first | assumption | go_keep | exact⟨hX1,hX2⟩ | exact⟨bV hSg5 hX1,bV hBg5 hX2⟩) ((go_at_call 96;refine HWO.out.mono ?_;rintro r w6 ⟨⟨z,rfl,hzk,hzN⟩,hb6,hX1,k0,k1,hk0,hk1,hz0,hz1⟩;have hX2:=HG5.out w6 hb6));rw[dG hzk];obtain⟨⟨A7,hS7,hA7⟩,hF7⟩:=HS5.out.store (q:=c') hb6 (by omega) hzN;have hd0:delE ses 0=ses.drop 1:=by simp[delE]
  rw[hd0]at hS7;have hF37:Frm (fun k=>k=A3.ga) w3 (set2 w6 A5.ga c' z):=HF5.out.trans (hF7.wide fun k _ e=>e.trans hA5.ga);have hFw7:Frm (fun k=>k=A.ga) w (set2 w6 A5.ga c' z):=hFw3.trans (hF37.wide fun k _ e=>e.trans hA3.ga);have hsl7:=HSL.out _ hFw7;obtain⟨z0,_,_⟩:=HC3.out (set2 w6 A5.ga c' z) 1 (hF37.block gs hgs hgsn) (by omega);have hk1':(ses.getD 1 e0).1=ky ses 1:=rfl;rw[hk1',Nat.one_mul]at z0;have hl7:(setN (setN f3 q (k,ces++ses.take 1)) c' (k,ses.drop 1)).cur.length=g.cur.length:=hl3;have hSg7:S≠A7.ga:=by rw[hA7.ga];exact hSg5
  have t7:=hS7.cells.2.1;have hbI7:(b:Int) <(A7.ns.length:Int):=by have:=hS7.v.ln;omega
  have hse1:(1:Int) <(ses.length:Int):=by omega
  have HSW:=aA (hS7.swapM (i:=i1) (ky ses 1,.empty,(c':Int)) hsl7 HHJ.out (by omega) 2 (b:=b) (by omega));have HFI:Hid (Fin (setN (setN f3 q (k,ces++ses.take 1)) c' (k,ses.drop 1)) (moveF g' b q c' k (ces++ses.take 1) (ses.drop 1) (es.set i1 (ky ses 1,.empty,(c':Int)))) b (2,es.set i1 (ky ses 1,.empty,(c':Int)))):=by
   refine⟨fun x d' hx=>?_,hfin.len,hfin.roots,hfin.next,hfin.gen,hfin.com⟩;have hx':upd (upd (upd g'.nodes q (some (k,ces++ses.take 1))) c' (some (k,ses.drop 1))) b (some (2,es.set i1 (ky ses 1,.empty,(c':Int)))) x=some d':=hx;show upd (upd (upd f3.nodes q (some (k,ces++ses.take 1))) c' (some (k,ses.drop 1))) b (some (2,es.set i1 (ky ses 1,.empty,(c':Int)))) x=some d'
   by_cases e1:x=b
   ·rw[e1,aD]at hx' ⊢;exact hx'
   ·rw[aC _ _ e1]at hx' ⊢
    by_cases e2:x=c'
    ·rw[e2,aD]at hx' ⊢;exact hx'
    ·rw[aC _ _ e2]at hx' ⊢
     by_cases e3:x=q
     ·rw[e3,aD]at hx' ⊢;exact hx'
     ·rw[aC _ _ e3]at hx' ⊢
      have:=hfin.sub x d' hx'
      have e:(setN f3 b (2,es.set i1 (ky es i1,.empty,(c':Int)))).nodes x=f3.nodes x:=aC _ _ e1;rw[e]at this;exact this
  have HFW7:=aA hFw7;have HA7:Hid (SaS A A7):=(hA3.trans hA5).trans hA7;have HS7:=aA hS7;have HSN:=aA hsh;have hgs7:gs≠A7.ga:=by rw[hA7.ga,hA5.ga];exact hgsn
  have hgs7l:gs <(set2 w6 A5.ga c' z).heap.size:=lL hgs hF37.size;generalize set2 w6 A5.ga c' z=w7 at *;have HZ8:Hid (∀w1,Bl w7 w1→w1.cell? ⟨gs,os+3,none⟩=some (.string (ky ses 1))):=fun w1 hb=>(hb.cell (p:=⟨gs,_,none⟩) hgs7l).trans z0;clear hX1 hX2 hk0 hk1 hz0 hz1 hzN hF7 hS7 hsl7 HWO HG5 hF37 hFw7 hsh;go_wp2;go_region_held3 (fun W=>W.cell? ⟨S,1,none⟩=some (.slice (some ⟨A7.ga,0,none⟩) A7.ns.length (A7.ns.length+A7.nj.length))∧W.cell? ⟨gs,os+3,none⟩=some (.string (ky ses 1))) (first | assumption | go_keep | exact⟨hX1,hX2⟩ | exact⟨bV hSg7 hX1,bV hgs7 hX2⟩) ((go_at_call 94;refine HSW.out.mono ?_;rintro r w8 ⟨⟨x,rfl,hxk,hxN⟩,hb8,hX1,k0,k1,hk0,hk1,hz0,hz1⟩;have hX2:=HZ8.out w8 hb8));rw[dG hxk];have HR:Hid (Zt w S A (moveF g' b q c' k (ces++ses.take 1) (ses.drop 1) (es.set i1 (ky ses 1,.empty,(c':Int)))) (set2 w8 A7.ga b x)):=Zt.trans HFW7.out HA7.out (HS7.out.fin hb8 (by omega) hxN HFI.out);clear hX1 hX2 hk0 hk1 hz0 hz1;go_wp2;go_ret;rw[HSN.out];exact⟨fun q=>(by cases q),fun g2 q2=>(by simp only[Option.map_some,sJ]at q2;subst q2;exact⟨rfl,HR.out⟩)⟩
theorem pB{g:fZ}{b j:Nat}{es:List E3}{k:Int}{ces ses:List E3}(h:Wd g b es (j+1) j k ces ses)(hla:¬j+1+1<es.length)(h2:2<ses.length)(w:World)(S:Nat)(A:SA)(hS:Sp w S A g):
  Calls Tryz.prog 95 #[.pointer (some ⟨S,0,none⟩),.int .i64 b,.int .i64 ((j+1:Nat):Int)] w (ZpP w S A ((shadow g (.ent b j)).map fun p=>moveF p.1 b p.2 (kd es (j+1)) k (ses.take (ses.length-1)) (ses.drop (ses.length-1)++ces) ((es.set (j+1) (ky ses (ses.length-1),.empty,(kd es (j+1):Int))).set j (ky es j,.empty,(p.2:Int))))):=by
 have hbn:=gQ;have hbe:=iT;obtain⟨i,hij⟩:=eZ (j+1);rw[hij]at h hla ⊢;have hel:=h.ent b _ h.hb;simp only at hel;have hbl:=h.ic.lt h.hb;have hcl:=h.ic.lt h.hc;obtain⟨v0,_⟩:=h.ve.inner h.ic h.hb h.hi;obtain⟨v1,_⟩:=h.ve.inner h.ic h.hb h.hj;obtain⟨_,s1,_⟩:=hS.cells;obtain⟨a,cp,hsl,hbA,_,_,c1,_⟩:=hS.v.nds.at h.hb;obtain⟨ac,cpc,hslc,hcA,_,d0,d1,_⟩:=hS.v.nds.at h.hc;obtain⟨as1,cps,hsls,hsA,_,_,e1,_⟩:=hS.v.nds.at h.hs;simp only at hsl c1 hslc d0 d1 hsls e1;obtain⟨g0,o0,cc,he,hg0,hcell⟩:=dZ hsl (by have:=h.hi;omega);cases he;obtain⟨_,_,x2⟩:=hcell w i rfl h.hi;have hne:g0≠A.ga:=by
  rcases hsl with⟨q,_⟩ | ⟨g',o',cap',xs,q,q1,_⟩
  ·cases q
  ·cases q;exact q1.type_ne hS.v.nds.arr (by decide)
 rw[v0]at x2;obtain⟨B,hB⟩:=eZ (w.heap.size);obtain⟨w0,hw0⟩:=eZ (w.alloc (.cells #[.int .i64 k,.slice ac ces.length cpc] 108));have hb0:=bAl hw0;have hbx:=iNw hw0 hB;obtain⟨_,_,y2⟩:=hcell w0 j (hb0.block _ hg0) h.hj;rw[v1]at y2;have hS0:=hS.below hb0;obtain⟨_,t1,_⟩:=hS0.cells;have e10:w0.cell? ⟨A.ga,kd es j*2+1,none⟩=some (.slice as1 ses.length cps):=(hb0.cell (p:=⟨A.ga,_,none⟩) hS.v.nds.arr.lt).trans e1;have b0:w0.cell? ⟨B,0,none⟩=some (.int .i64 k):=hbx.c rfl;have b1:w0.cell? ⟨B,1,none⟩=some (.slice ac ces.length cpc):=hbx.c rfl;have hSg:S≠A.ga:=hS.box.type_ne hS.v.nds.arr (by decide);have hBg:B≠A.ga:=by have:=hS.v.nds.arr.lt;omega
 have hbI:(b:Int) <(A.ns.length:Int):=by omega
 have hcI:(kd es i:Int) <(A.ns.length:Int):=by omega
 have hsI:(kd es j:Int) <(A.ns.length:Int):=by omega
 have hiI:(i:Int) <(es.length:Int):=by have:=h.hi;omega
 have hi0:=h.hi;have hj0:=h.hj;obtain⟨i2,hi2⟩:=eZ (i+1);have hwr:IntKind.i64.wrap ((i:Int)+1)=(i2:Int):=(IntWalk.i64_in _ ⟨by omega,by omega⟩).trans (by omega);have hwj:IntKind.i64.wrap ((i:Int)-1)=(j:Int):=(IntWalk.i64_in _ ⟨by omega,by omega⟩).trans (by omega);have hi2I:¬((i2:Int) <(es.length:Int)):=by omega
 have hjI:(j:Int) <(es.length:Int):=by omega
 have hf2:((ses.length:Int) == 2)=false:=by rw[beq_eq_false_iff_ne];omega
 have hsl5:=h.ent _ _ h.hs;simp only at hsl5;have hsn:=fun g' c' (q:shadow g (.ent b j)=some (g',c'))=>dB h.ic h.ve h.hb h.hj h.hs q;have HSH:=aA (gU h.ic (fun b d hd=>(by have:=h.ent b d hd;omega:d.2.length≤10)) h.ve w0 S A hS0 h.r16 b j es h.hb h.hj);have HSL:=aA fun(w1:World) (hF:Frm (fun k=>k=A.ga) w w1)=>hS.slF hsl hF;have HSLC:=aA fun(w1:World) (hF:Frm (fun k=>k=A.ga) w w1)=>hS.slF hslc hF;have HSZ:=aA hS0;have HB0:=aA hb0;have hX:Hid (kd es j≠kd es i):=h.cs.symm;have HGO:Hid (∀w1,Bl w0 w1→w1.cell? ⟨B,0,none⟩=some (.int .i64 k)∧w1.cell? ⟨B,1,none⟩=some (.slice ac ces.length cpc)∧w1.cell? ⟨A.ga,kd es j*2+1,none⟩=some (.slice as1 ses.length cps)):=fun w1 hb=>by
  refine⟨?_,?_,?_⟩
  ·rw[(hbx.of (hb.block _ hbx.lt)).cell];rfl
  ·rw[(hbx.of (hb.block _ hbx.lt)).cell];rfl
  ·exact(hb.cell (p:=⟨A.ga,_,none⟩) hS0.v.nds.arr.lt).trans e10
 obtain⟨q,hq⟩:=eZ (kd es i);obtain⟨s,hs⟩:=eZ (kd es j);have hhs:=h.hs;have hhc:=h.hc;have hhcs:=h.cs;have hbc:=h.bc;rw[hq]at x2 d0 d1 hcI hX hcl hhc hhcs hbc;rw[hs]at y2 e10 hsI hX HSH hhs hhcs hsn;rw[hq];have HBX:=aA hbx;clear hcell hslc hsls hbx hS0 v0 v1 hq hs hi2 HGO;go_enter Tryz.func95,Tryz.ntmps95;go_wp2_with fail;refine HSH.out.mono ?_;intro r w3 hz;obtain⟨hF3,hzn,hzy⟩:=hz;cases hsh:shadow g (.ent b j)with
 | none=>
  obtain rfl:=hzn hsh;have HSN:=aA hsh;clear hzn hzy hsh;go_wp2;go_ret;rw[HSN.out];exact⟨fun _=>⟨rfl,(Frm.of_below HB0.out).trans hF3⟩,fun g q=>by cases q⟩
 | some gc=>
  obtain⟨g',c'⟩:=gc;obtain⟨rfl,A3,f3,hS3,hA3,hlf,hfin⟩:=hzy g' c' hsh;obtain⟨n1,n2,n3,n4,n5,n6⟩:=hsn g' c' hsh;have hqc:q≠c':=n4 q _ hhc hhcs;have hc3:f3.nodes c'=some (k,ses):=by
   have:=hfin.sub c' _ n1
   have e:(setN f3 b (2,es.set j (ky es j,.empty,(c':Int)))).nodes c'=f3.nodes c':=aC _ _ n2;rw[e]at this;exact this
  have hFw3:Frm (fun k=>k=A.ga) w w3:=(Frm.of_below HB0.out).trans hF3;have hl3:f3.cur.length=g.cur.length:=hlf;obtain⟨_,t3,_⟩:=hS3.cells;obtain⟨as3,cps3,hsl3,hsA3,_,_,f1,hcp3⟩:=hS3.v.nds.at hc3;simp only at hsl3 f1 hcp3;obtain⟨gs,os,cs3',he3,hgs,hcell3⟩:=dZ hsl3 (by omega);cases he3;have hgsn:gs≠A3.ga:=by
   rcases hsl3 with⟨q,_⟩ | ⟨g',o',cap',xs,q,q1,_⟩
   ·cases q
   ·cases q;exact q1.type_ne hS3.v.nds.arr (by decide)
  have hBg3:B≠A3.ga:=by rw[hA3.ga];exact hBg
  have hbx3:IsC w3 B #[.int .i64 k,.slice ac ces.length cpc] 108:=HBX.out.frm hF3 hBg;have hSg3:S≠A3.ga:=by rw[hA3.ga];exact hSg
  have hcp1:(1:Int)≤(cps3:Int):=by omega
  have hc0:¬((c':Int)<0):=by omega
  have hcI3:(c':Int) <(A3.ns.length:Int):=by omega
  have hqI3:(q:Int) <(A3.ns.length:Int):=by have:=hS3.v.ln;omega
  obtain⟨n1',hn1'⟩:=eZ (ses.length-1);have hwn:IntKind.i64.wrap ((ses.length:Int)-1)=(n1':Int):=(IntWalk.i64_in _ ⟨by omega,by omega⟩).trans (by omega);have hnI:(n1':Int) <(ses.length:Int):=by omega
  have hnl:n1'<ses.length:=by omega
  obtain⟨q0,q1,q2⟩:=hcell3 w3 n1' rfl hnl;obtain⟨L,hL⟩:=eZ (ses.getD n1' e0);rw[hL]at q0 q1 q2;have hLk:ky ses n1'=L.1:=by unfold ky;rw[hL]
  obtain⟨B4,hB4⟩:=eZ (w3.heap.size);obtain⟨w4,hw4⟩:=eZ (w3.alloc (.cells #[.string L.1,.string L.2.1,.int .i64 L.2.2] 110));have hb34:=bAl hw4;have hbL:=iNw hw4 hB4;have hS4:=hS3.below hb34;have hFw4:Frm (fun k=>k=A.ga) w w4:=hFw3.trans (Frm.of_below hb34);have hbx4:=hbx3.of (hb34.block _ hbx3.lt);have HIN:=aA (hS4.insM (i:=0) L (HSLC.out w4 hFw4) (by omega) (by have:=h.c2;omega) k (b:=q) (by omega));have t4:=hS4.cells.2.1;have p0:w4.cell? ⟨B,0,none⟩=some (.int .i64 k):=hbx4.c rfl;have p1:w4.cell? ⟨B,1,none⟩=some (.slice ac ces.length cpc):=hbx4.c rfl;have p2:w4.cell? ⟨B4,0,none⟩=some (.string L.1):=hbL.c rfl;have p3:w4.cell? ⟨B4,1,none⟩=some (.string L.2.1):=hbL.c rfl;have p4:w4.cell? ⟨B4,2,none⟩=some (.int .i64 L.2.2):=hbL.c rfl;have HGO:Hid (∀w1,Bl w4 w1→w1.cell? ⟨B,0,none⟩=some (.int .i64 k)∧w1.cell? ⟨B,1,none⟩=some (.slice ac ces.length cpc)∧w1.cell? ⟨B4,0,none⟩=some (.string L.1)∧w1.cell? ⟨B4,1,none⟩=some (.string L.2.1)∧w1.cell? ⟨B4,2,none⟩=some (.int .i64 L.2.2)):=fun w1 hb=>by
   refine⟨?_,?_,?_,?_,?_⟩
   ·rw[(hbx4.of (hb.block _ hbx4.lt)).cell];rfl
   ·rw[(hbx4.of (hb.block _ hbx4.lt)).cell];rfl
   ·rw[(hbL.of (hb.block _ hbL.lt)).cell];rfl
   ·rw[(hbL.of (hb.block _ hbL.lt)).cell];rfl
   ·rw[(hbL.of (hb.block _ hbL.lt)).cell];rfl
  have hB4g:B4≠A3.ga:=by have:=hS3.v.nds.arr.lt;omega
  have HS4:=aA hS4;have HC3:=aA hcell3;have HSL4:=aA (hsl3.below hb34);have HBX4:=aA hbx4;have HBL4:=aA hbL;have HFW4:=aA hFw4;have HLK:=aA (aI hn1' (aI hL hLk));clear hzn hzy hcell3 hsl3 hsn hbL hbx4 hS4 hb34 hFw4 hn1' hL hLk;go_wp2;go_region_held3 (fun W=>W.cell? ⟨S,1,none⟩=some (.slice (some ⟨A3.ga,0,none⟩) A3.ns.length (A3.ns.length+A3.nj.length))∧W.cell? ⟨B,0,none⟩=some (.int .i64 k)∧W.cell? ⟨B,1,none⟩=some (.slice ac ces.length cpc)∧W.cell? ⟨B4,0,none⟩=some (.string L.1)∧W.cell? ⟨B4,1,none⟩=some (.string L.2.1)∧W.cell? ⟨B4,2,none⟩=some (.int .i64 L.2.2)) (first | assumption | go_keep | exact⟨hX1,hX2,hX3,hX4,hX5,hX6⟩ | exact⟨bV hSg3 hX1,bV hBg3 hX2,bV hBg3 hX3,bV hB4g hX4,bV hB4g hX5,bV hB4g hX6⟩) ((go_at_call 109;refine HIN.out.mono ?_;rintro r w5 ⟨⟨y,rfl,hyk,hyN⟩,hb5,hX1,k0,k1,hk0,hk1,hz0,hz1⟩;obtain⟨hX2,hX3,hX4,hX5,hX6⟩:=HGO.out w5 hb5));rw[dG hyk];obtain⟨⟨A6,hS6,hA6⟩,hF6⟩:=HS4.out.store (q:=q) hb5 (by omega) hyN;have hsl6:=HS4.out.slF HSL4.out hF6;have hbx6:IsC (set2 w5 A3.ga q y) B #[.int .i64 k,.slice ac ces.length cpc] 108:=HBX4.out.frm hF6 hBg3;have hbL6:IsC (set2 w5 A3.ga q y) B4 #[.string L.1,.string L.2.1,.int .i64 L.2.2] 110:=HBL4.out.frm hF6 hB4g;have hl6:(setN f3 q (k,insE ces 0 L)).cur.length=g.cur.length:=hl3;have hBg6:B≠A6.ga:=by rw[hA6.ga];exact hBg3
  have hSg6:S≠A6.ga:=by rw[hA6.ga];exact hSg3
  have HWO:=aA (hS6.withoutM (i:=n1') hsl6 hnl (by omega) k (b:=c') (by omega));have t6:=hS6.cells.2.1;have p6:(set2 w5 A3.ga q y).cell? ⟨B,0,none⟩=some (.int .i64 k):=hbx6.c rfl;have hcI6:(c':Int) <(A6.ns.length:Int):=by have:=hS6.v.ln;omega
  have HF6:=aA hF6;have HS6:=aA hS6;have HBX6:=aA hbx6;have HBL6:=aA hbL6;obtain⟨w6,hw6⟩:=eZ (set2 w5 A3.ga q y);rw[hw6]at HS6 HWO HF6 t6 p6 HBX6 HBL6;rw[hw6];have HG6:Hid (∀w1,Bl w6 w1→w1.cell? ⟨B,0,none⟩=some (.int .i64 k)):=fun w1 hb=>by rw[(HBX6.out.of (hb.block _ HBX6.out.lt)).cell];rfl
  clear hX1 hX2 hX3 hX4 hX5 hX6 hk0 hk1 hz0 hz1 hyN hF6 hS6 hsl6 hbx6 hbL6 HIN HGO hw6;go_wp2;go_region_held3 (fun W=>W.cell? ⟨S,1,none⟩=some (.slice (some ⟨A6.ga,0,none⟩) A6.ns.length (A6.ns.length+A6.nj.length))∧W.cell? ⟨B,0,none⟩=some (.int .i64 k)) (first | assumption | go_keep | exact⟨hX1,hX2⟩ | exact⟨bV hSg6 hX1,bV hBg6 hX2⟩) ((go_at_call 96;refine HWO.out.mono ?_;rintro r w7 ⟨⟨z,rfl,hzk,hzN⟩,hb7,hX1,k0,k1,hk0,hk1,hz0,hz1⟩;have hX2:=HG6.out w7 hb7));rw[dG hzk];obtain⟨⟨A8,hS8,hA8⟩,hF8⟩:=HS6.out.store (q:=c') hb7 (by omega) hzN;have hF48:Frm (fun k=>k=A3.ga) w4 (set2 w7 A6.ga c' z):=HF6.out.trans (hF8.wide fun k _ e=>e.trans hA6.ga);have hFw8:Frm (fun k=>k=A.ga) w (set2 w7 A6.ga c' z):=HFW4.out.trans (hF48.wide fun k _ e=>e.trans hA3.ga);have hsl8:=HSL.out _ hFw8;have hbL8:IsC (set2 w7 A6.ga c' z) B4 #[.string L.1,.string L.2.1,.int .i64 L.2.2] 110:=HBL4.out.frm hF48 hB4g;have r0:(set2 w7 A6.ga c' z).cell? ⟨B4,0,none⟩=some (.string L.1):=hbL8.c rfl;have HSW:=aA (eR _ es i (L.1,.empty,(q:Int)) (set2 w7 A6.ga c' z) hsl8 hi0 (by omega));have hl8:(setN (setN f3 q (k,insE ces 0 L)) c' (k,delE ses n1')).cur.length=g.cur.length:=hl3;have hSg8:S≠A8.ga:=by rw[hA8.ga];exact hSg6
  have hbI8:(b:Int) <(A8.ns.length:Int):=by have:=hS8.v.ln;omega
  have HFW8:=aA hFw8;have HA8:Hid (SaS A A8):=(hA3.trans hA6).trans hA8;have HS8:=aA hS8;have HSN:=aA hsh;generalize set2 w7 A6.ga c' z=w8 at *;clear hX1 hX2 hk0 hk1 hz0 hz1 hzN hF8 hS8 hsl8 HWO HG6 hF48 hFw8 hsh hbL8;go_wp2_with fail;refine HSW.out.mono ?_;rintro r w9 ⟨u,rfl,hu,hb9⟩;have hS9:=HS8.out.below hb9;have t9:=hS9.cells.2.1;have hul:(es.set i (L.1,.empty,(q:Int))).length=es.length:=List.length_set ..;obtain⟨gu,ou,cu',rfl,hgu,hcellu⟩:=dZ hu.sl (by omega);obtain⟨g0',_,_⟩:=hcellu w9 j rfl (by omega);have hkj:((es.set i (L.1,.empty,(q:Int))).getD j e0).1=ky es j:=by rw[bA _ _ _ _ _ hi0,if_neg (by omega)];rfl
  rw[hkj]at g0';have HSW2:=aA (hS9.swapM (i:=j) (ky es j,.empty,(c':Int)) hu.sl (by omega) (by omega) 2 (b:=b) (by omega));have HS9:=aA hS9;have hgu9:gu≠A8.ga:=by
   rcases hu.sl with⟨q,_⟩ | ⟨g',o',cap',xs,q,q1,_⟩
   ·cases q
   ·cases q;exact q1.type_ne hS9.v.nds.arr (by decide)
  have HZ9:Hid (∀w1,Bl w9 w1→w1.cell? ⟨gu,ou+j*3,none⟩=some (.string (ky es j))):=fun w1 hb=>(hb.cell (p:=⟨gu,_,none⟩) hgu).trans g0';rw[hul]at HSW2;rw[hul];have HUL:=aA hul;clear hS9 hu hcellu hkj hul;go_wp2;go_region_held3 (fun W=>W.cell? ⟨S,1,none⟩=some (.slice (some ⟨A8.ga,0,none⟩) A8.ns.length (A8.ns.length+A8.nj.length))∧W.cell? ⟨gu,ou+j*3,none⟩=some (.string (ky es j))) (first | assumption | go_keep | exact⟨hX1,hX2⟩ | exact⟨bV hSg8 hX1,bV hgu9 hX2⟩) ((go_at_call 94;refine HSW2.out.mono ?_;rintro r w10 ⟨⟨x,rfl,hxk,hxN⟩,hb10,hX1,k0,k1,hk0,hk1,hz0,hz1⟩;have hX2:=HZ9.out w10 hb10));rw[dG hxk];obtain⟨m1,m2,m3⟩:=HLK.out;have hdl:delE ses n1'=ses.take n1':=by unfold delE;rw[List.drop_of_length_le (by omega),List.append_nil]
  have hin:insE ces 0 L=ses.drop n1'++ces:=by
   unfold insE;have hx:ses.drop (n1'+1)=[]:=List.drop_of_length_le (by omega);have:ses[n1']=L:=by rw[←m2,gD,gE hnl];rfl
   rw[List.drop_eq_getElem_cons hnl,hx,this];rfl
  have hFI:Fin (setN (setN f3 q (k,insE ces 0 L)) c' (k,delE ses n1')) (moveF g' b c' q k (ses.take (ses.length-1)) (ses.drop (ses.length-1)++ces) ((es.set i (ky ses (ses.length-1),.empty,(q:Int))).set j (ky es j,.empty,(c':Int)))) b (2,(es.set i (L.1,.empty,(q:Int))).set j (ky es j,.empty,(c':Int))):=by
   rw[m1,hin,hdl,m3];refine⟨fun x d' hx=>?_,hfin.len,hfin.roots,hfin.next,hfin.gen,hfin.com⟩;generalize (es.set i (L.1,.empty,(q:Int))).set j (ky es j,.empty,(c':Int))=pes at *;have hx':upd (upd (upd g'.nodes c' (some (k,ses.take n1'))) q (some (k,ses.drop n1'++ces))) b (some (2,pes)) x=some d':=hx;show upd (upd (upd f3.nodes q (some (k,ses.drop n1'++ces))) c' (some (k,ses.take n1'))) b (some (2,pes)) x=some d'
   by_cases e1:x=b
   ·rw[e1,aD]at hx' ⊢;exact hx'
   ·rw[aC _ _ e1]at hx' ⊢
    by_cases e2:x=c'
    ·rw[e2,aC _ _ (Ne.symm hqc),aD]at hx'
     rw[e2,aD];exact hx'
    ·rw[aC _ _ e2]
     by_cases e3:x=q
     ·rw[e3,aD]at hx' ⊢;exact hx'
     ·rw[aC _ _ e3,aC _ _ e2]at hx'
      rw[aC _ _ e3];have:=hfin.sub x d' hx';have e:(setN f3 b (2,es.set j (ky es j,.empty,(c':Int)))).nodes x=f3.nodes x:=aC _ _ e1;rw[e]at this;exact this
  have HR:Hid (Zt w S A (moveF g' b c' q k (ses.take (ses.length-1)) (ses.drop (ses.length-1)++ces) ((es.set i (ky ses (ses.length-1),.empty,(q:Int))).set j (ky es j,.empty,(c':Int)))) (set2 w10 A8.ga b x)):=Zt.trans (HFW8.out.trans (Frm.of_below hb9)) HA8.out (HS9.out.fin hb10 (by omega) hxN hFI);clear hX1 hX2 hk0 hk1 hz0 hz1 hFI hin hdl m1 m2 m3;go_wp2;go_ret;rw[HSN.out];exact⟨fun q=>(by cases q),fun g2 q2=>(by simp only[Option.map_some,sJ]at q2;subst q2;exact⟨rfl,HR.out⟩)⟩
