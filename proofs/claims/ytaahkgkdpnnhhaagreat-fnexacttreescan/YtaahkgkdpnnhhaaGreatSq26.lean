import Derived.Test.YtaahkgkdpnnhhaaGreatSq17
set_option maxHeartbeats 9999999
set_option maxRecDepth 99999
set_option linter.all false
namespace Go.Proofs.YtaahkgkdpnnhhaaGreat
open Go.RowKit Fo
variable{cs y4 y5:Array Value}{B4 B5:Nat}{A:SA}{w w':World}{f:fZ}
theorem cK{o:Oper}{a:Act}{K:Act→World→Prop}{Q:Exit→Act→World→Prop}(x:Operand)(ho:o.op=.load 57 x)(g:Nat)(hg:IsC w g cs 57)(hx:a.eval x=.pointer (some ⟨g,0,none⟩))(hi:cs.size=7)(h:K (a.put o.dst (.agg cs)) w):o.wp Tryz.prog a w K Q:=by
 unfold Oper.wp;rw[lG _ x ho g hg hx (by kernel_rfl) (by rw[hi];kernel_rfl)];exact h
theorem cX(A:SA)(f:fZ):(aL A f).size=7:=rfl
theorem dN(h:SpV w A f)(ht:∃a n c,A.tv=.slice a n c):(aL A f).all (·.oneCell')=true:=by
 obtain⟨ma,mc,pq⟩:=h.com.len;obtain⟨a,n,c,e⟩:=ht;unfold aL;rw[pq,e];simp[Value.oneCell']
theorem Inv.cts(h:Inv f):CtS f:=⟨h.ic,h.r16,fun b d hd=>by have:=h.ent hd;omega,h.cmr⟩
structure OpP(w:World)(r:fZ×An)(e:Ending)(w':World):Prop where
 ex:∃A',e=.returned (.tuple #[.agg (aL A' r.1),bN r.2])∧SpV w' A' r.1∧∃a n c,A'.tv=.slice a n c
 bel:Bl w w'
theorem kG{g:Nat}{ty:TypeId}(hg:IsC w g cs ty)(hr:(Tryz.prog.underlying ty).map (·.isRow)=some true)(hi:(Tryz.prog.info? ty).map (·.size)=some cs.size):(loadVar ty ⟨g,0,none⟩).run Tryz.prog w=.ok (.agg cs) w:=by
 obtain⟨d,hu,hd⟩:∃d,Tryz.prog.underlying ty=some d∧d.isRow=true:=by
  cases e:Tryz.prog.underlying ty with
  | none=>rw[e]at hr;cases hr
  | some d=>rw[e]at hr;exact⟨d,rfl,by simpa using hr⟩
 have:=run_loadVar_mid (P:=Tryz.prog) w g 0 ty cs.toList d hg.range hu hd (by simpa using hi)
 simpa using this
theorem bE{a:Array Value}{x y:Array Value}(h4:IsC w B4 x 57)(h5:IsC w B5 y 92)(hx:x.size=7)(hy:y.size=3)(e4:a.getD 4 undef=.pointer (some ⟨B4,0,none⟩))(e5:a.getD 5 undef=.pointer (some ⟨B5,0,none⟩)):
  (results Tryz.f52 a).run Tryz.prog w=.ok (.tuple #[.agg x,.agg y]) w:=by
 have l4:=kG h4 (by kernel_rfl) (by rw[hx];kernel_rfl);have l5:=kG h5 (by kernel_rfl) (by rw[hy];kernel_rfl);simp only[Array.getD_eq_getD_getElem?]at e4 e5;simp[results,Tryz.f52,e4,e5,asAddr,l4,l5]
theorem OpP.bad(hS:SpV w A f)(iz:∃a n c,A.tv=.slice a n c)(hb:Bl w w')(c:Int):OpP w (f,c,0,.empty) (.returned (.tuple #[.agg (aL A f),.agg #[.int .i64 c,.int .i64 0,.string .empty]])) w':=
 ⟨⟨A,rfl,hS.below hb,iz⟩,hb⟩
theorem aEJ(kind tree:Int)(key val:ByteArray)(q0:inB kind 1 6=false)(w:World)(A:SA)(hS:SpV w A f)(iz:∃a n c,A.tv=.slice a n c):
  Calls Tryz.prog 52 #[.agg (aL A f),.agg #[.int .i64 kind,.int .i64 tree,.string key,.string val]] w (OpP w (opM f kind tree key val)):=by
 have bd:=cX A f;have ff:=dN hS iz;have iw:=aA fun(w':World) (hb:Bl w w') (c:Int)=>OpP.bad hS iz hb c;obtain⟨XS,vh⟩:=eZ (aL A f);rw[vh]at bd ff iw;rw[vh];have Kc:=aA vh;clear vh;obtain⟨r,Hr⟩:∃r,Hid (opM f kind tree key val=r):=⟨_,rfl⟩;rw[Hr.out];obtain⟨w1,bh⟩:=eZ (w.alloc (.cells XS 57));obtain⟨w2,ci⟩:=eZ (w1.alloc (.cells #[.int .i64 kind,.int .i64 tree,.string key,.string val] 63));obtain⟨w3,dw⟩:=eZ (w2.alloc (.cells #[.int .i64 0,.slice none 0 0,.slice none 0 0,.int .i64 0,.int .i64 0,.slice none 0 0,.slice none 0 0] 57));obtain⟨w4,cn⟩:=eZ (w3.alloc (.cells #[.int .i64 0,.int .i64 0,.string {data:=#[]}] 92));obtain⟨B2,db⟩:=eZ (w.heap.size);obtain⟨B3,fk⟩:=eZ (w1.heap.size);obtain⟨B4,dq⟩:=eZ (w2.heap.size);obtain⟨B5,qx⟩:=eZ (w3.heap.size);have nf:∀(u:World) (o:Obj) (v:World),u.alloc o=v→Bl u v∧v.heap.size=u.heap.size+1:=fun u o v e=>by rw[←e];exact⟨(bQ _ u).alloc (nR _) _,by simp⟩
 have nh:∀(u:World) (cs:Array Value) (ty:TypeId) (v:World),u.alloc (.cells cs ty)=v→IsC v u.heap.size cs ty:=fun u cs ty v e=>by rw[←e];exact IsC.new _ _ _
 obtain⟨b1,s1⟩:=nf _ _ _ bh;obtain⟨b2,s2⟩:=nf _ _ _ ci;obtain⟨b3,s3⟩:=nf _ _ _ dw;obtain⟨b4,s4⟩:=nf _ _ _ cn;have n2:=nh _ _ _ _ bh;have n3:=nh _ _ _ _ ci;have n4:=nh _ _ _ _ dw;have n5:=nh _ _ _ _ cn;rw[db]at n2;rw[fk]at n3;rw[dq]at n4;rw[qx]at n5;have c34:Bl w3 w4:=b4;have c24:Bl w2 w4:=b3.trans (c34.mono (by omega));have c14:Bl w1 w4:=b2.trans (c24.mono (by omega));have c04:Bl w w4:=b1.trans (c14.mono (by omega));have i2:IsC w4 B2 XS 57:=n2.of (c14.block _ n2.lt);have i3:=n3.of (c24.block _ n3.lt);have i4:=n4.of (c34.block _ n4.lt);have m24:B2≠B4:=by omega
 have k0:w4.cell? ⟨B3,0,none⟩=some (.int .i64 kind):=i3.c rfl;have HD:=aA (aI s1 (aI s2 (aI s3 (aI s4 (aI db (aI fk (aI dq qx)))))));have vd:Hid (w.heap.size≤B4∧w.heap.size≤B5):=(show _∧_ from by omega);have sv:Hid (∀(wz w':World),Bl w wz→Frm (fun k=>k=B4∨k=B5) wz w'→Bl w w'):=fun wz w' hb hF=>hb.trans (hF.below hb.size fun k e=>by have:=vd.out;rcases e with e | e<;>omega);have zw:inB kind 1 6=false→aY f kind tree key val=(0,5):=fun q=>by unfold aY;rw[if_pos q]
 clear nf nh b1 b2 b3 b4 n2 n3 n4 c34 c24 c14 s1 s2 s3 s4;go_enter Tryz.func52,Tryz.ntmps52;have HA:Hid (r=(f,5,0,.empty)):=by
  show r=_
  rw[←Hr.out];unfold opM;rw[zw q0];rfl
 rw[HA.out];by_cases q1:kind<1
 ·clear zw
  go_wp2
  refine fX (d1:=23) (d2:=24) (c:=5) i2 bd ff i4 rfl n5 rfl m24 rfl (fun _ _=>rfl) (fun _ _=>rfl) (fun _ _=>rfl) (fun _ _=>rfl) (by kernel_rfl) (fun _ _ _ _ h=>h) (fun w' j4 j5 jF=>?_);clear i2 i3 i4 n5 k0;simp only[Act.put,sB,sZ,sS];go_wp2;refine bodyPost_ret (v:=.tuple #[.agg XS,.agg #[.int .i64 5,.int .i64 0,.string .empty]]) (bE j4 j5 bd rfl rfl rfl) rfl ?_;exact iw.out w' (sv.out _ _ c04 jF) 5
 ·have q2:6<kind:=by unfold inB at q0;simp at q0;omega
  clear zw;go_wp2;refine fX (d1:=23) (d2:=24) (c:=5) i2 bd ff i4 rfl n5 rfl m24 rfl (fun _ _=>rfl) (fun _ _=>rfl) (fun _ _=>rfl) (fun _ _=>rfl) (by kernel_rfl) (fun _ _ _ _ h=>h) (fun w' j4 j5 jF=>?_);clear i2 i3 i4 n5 k0;simp only[Act.put,sB,sZ,sS];go_wp2;refine bodyPost_ret (v:=.tuple #[.agg XS,.agg #[.int .i64 5,.int .i64 0,.string .empty]]) (bE j4 j5 bd rfl rfl rfl) rfl ?_;exact iw.out w' (sv.out _ _ c04 jF) 5
theorem SpV.frmB(h:SpV w A f)(h4:IsC w B4 y4 57)(h5:IsC w B5 y5 92)(hF:Frm (fun k=>k=B4∨k=B5) w w'):SpV w' A f:=
 ⟨h.nds.frm hF (fun g cs k e=>e.elim (k.type_ne h4 (by decide)) (k.type_ne h5 (by decide))) (fun e=>e.elim (h.nds.arr.type_ne h4 (by decide)) (h.nds.arr.type_ne h5 (by decide))),h.ln,h.rts.frm hF (fun e=>e.elim (h.rts.type_ne h4 (by decide)) (h.rts.type_ne h5 (by decide))),h.rs,h.com.frm hF (fun g cs k e=>e.elim (k.type_ne h4 (by decide)) (k.type_ne h5 (by decide)))⟩
theorem OpP.good{w9:World}{A2:SA}{g:fZ}{B6:Nat}(hS:Sp w9 B6 A2 g)(iz:∃a n c,A2.tv=.slice a n c)(h4:IsC w9 B4 y4 57)(h5:IsC w9 B5 y5 92)(hF:Frm (fun k=>k=B4∨k=B5) w9 w')(hb:Bl w w')(a:An):OpP w (g,a) (.returned (.tuple #[.agg (aL A2 g),bN a])) w':=
 ⟨⟨A2,rfl,hS.v.frmB h4 h5 hF,iz⟩,hb⟩
theorem buildA01(W:World)(c v:Int):(Instr.build 92 #[(0,.int .i64 c),(1,.int .i64 v)]).run Tryz.prog W=.ok (.agg #[.int .i64 c,.int .i64 v,.string .empty]) W:=by kernel_rfl
theorem vD(hI:Inv f)(kind tree:Int)(key val:ByteArray)(h5:kind≠5)(Sn:kind=1∨kind=2→(aY f kind tree key val).2≠0)(w:World)(A:SA)(hS:SpV w A f)(iz:∃a n c,A.tv=.slice a n c):
  Calls Tryz.prog 52 #[.agg (aL A f),.agg #[.int .i64 kind,.int .i64 tree,.string key,.string val]] w (OpP w (opM f kind tree key val)):=by
 by_cases q0:inB kind 1 6=false
 ·exact aEJ kind tree key val q0 w A hS iz
 have UO:=aA Sn;clear Sn;have bd:=cX A f;have ff:=dN hS iz;have iw:=aA fun(w':World) (hb:Bl w w') (c:Int)=>OpP.bad hS iz hb c;obtain⟨XS,vh⟩:=eZ (aL A f);rw[vh]at bd ff iw;rw[vh];have Kc:=aA vh;clear vh;obtain⟨r,Hr⟩:∃r,Hid (opM f kind tree key val=r):=⟨_,rfl⟩;rw[Hr.out];obtain⟨w1,bh⟩:=eZ (w.alloc (.cells XS 57));obtain⟨w2,ci⟩:=eZ (w1.alloc (.cells #[.int .i64 kind,.int .i64 tree,.string key,.string val] 63));obtain⟨w3,dw⟩:=eZ (w2.alloc (.cells #[.int .i64 0,.slice none 0 0,.slice none 0 0,.int .i64 0,.int .i64 0,.slice none 0 0,.slice none 0 0] 57));obtain⟨w4,cn⟩:=eZ (w3.alloc (.cells #[.int .i64 0,.int .i64 0,.string {data:=#[]}] 92));obtain⟨B2,db⟩:=eZ (w.heap.size);obtain⟨B3,fk⟩:=eZ (w1.heap.size);obtain⟨B4,dq⟩:=eZ (w2.heap.size);obtain⟨B5,qx⟩:=eZ (w3.heap.size);have nf:∀(u:World) (o:Obj) (v:World),u.alloc o=v→Bl u v∧v.heap.size=u.heap.size+1:=fun u o v e=>by rw[←e];exact⟨(bQ _ u).alloc (nR _) _,by simp⟩
 have nh:∀(u:World) (cs:Array Value) (ty:TypeId) (v:World),u.alloc (.cells cs ty)=v→IsC v u.heap.size cs ty:=fun u cs ty v e=>by rw[←e];exact IsC.new _ _ _
 obtain⟨b1,s1⟩:=nf _ _ _ bh;obtain⟨b2,s2⟩:=nf _ _ _ ci;obtain⟨b3,s3⟩:=nf _ _ _ dw;obtain⟨b4,s4⟩:=nf _ _ _ cn;have n2:=nh _ _ _ _ bh;have n3:=nh _ _ _ _ ci;have n4:=nh _ _ _ _ dw;have n5:=nh _ _ _ _ cn;rw[db]at n2;rw[fk]at n3;rw[dq]at n4;rw[qx]at n5;have c34:Bl w3 w4:=b4;have c24:Bl w2 w4:=b3.trans (c34.mono (by omega));have c14:Bl w1 w4:=b2.trans (c24.mono (by omega));have c04:Bl w w4:=b1.trans (c14.mono (by omega));have i2:IsC w4 B2 XS 57:=n2.of (c14.block _ n2.lt);have i3:=n3.of (c24.block _ n3.lt);have i4:=n4.of (c34.block _ n4.lt);have m24:B2≠B4:=by omega
 have k0:w4.cell? ⟨B3,0,none⟩=some (.int .i64 kind):=i3.c rfl;have HD:=aA (aI s1 (aI s2 (aI s3 (aI s4 (aI db (aI fk (aI dq qx)))))));have vd:Hid (w.heap.size≤B4∧w.heap.size≤B5):=(show _∧_ from by omega);have sv:Hid (∀(wz w':World),Bl w wz→Frm (fun k=>k=B4∨k=B5) wz w'→Bl w w'):=fun wz w' hb hF=>hb.trans (hF.below hb.size fun k e=>by have:=vd.out;rcases e with e | e<;>omega);have zw:inB kind 1 6=false→aY f kind tree key val=(0,5):=fun q=>by unfold aY;rw[if_pos q]
 clear nf nh b1 b2 b3 b4 n2 n3 n4 c34 c24 c14 s1 s2 s3 s4;go_enter Tryz.func52,Tryz.ntmps52;have q2:1≤kind∧kind≤6:=by unfold inB at q0;simpa using q0
 obtain⟨q2,q3⟩:=q2;have q4:¬kind<1:=by omega
 have q5:¬6<kind:=by omega
 have DX:=aA q0;have pp:=mN w4 A (hS.below c04) (by have:=hI.ic.n8;omega) hI.ic.n512 hI.ne (by have:=hI.r16;omega) iz;unfold stV at pp;rw[Kc.out]at pp;have DD:=aA pp;clear zw q0 pp;go_upto_region 3 with fail
 refine wp_region_list ?_;refine wpList_plain rfl (fun K2 ae=>?_);refine cK _ rfl B2 i2 rfl bd ?_;refine ae _ _ ?_;clear ae K2;simp only[Act.put,sB,sZ,sS];refine wpList_plain rfl (fun K2 ae=>?_);go_simp;refine DD.out.mono ?_;rintro e w5 ⟨A1,rfl,br,Ej,ue,bm,et⟩;refine ae _ _ ?_;clear ae K2 DD;have sr:∃a n c,A1.tv=.slice a n c:=by rw[Ej];exact iz
 have mx:=dN br sr;have fq:=cX A1 f;obtain⟨X1,de⟩:=eZ (aL A1 f);rw[de]at mx fq;rw[de];obtain⟨w6,wi⟩:=eZ (w5.alloc (.cells #[.int .i64 0,.slice none 0 0,.slice none 0 0,.int .i64 0,.int .i64 0,.slice none 0 0,.slice none 0 0] 57));obtain⟨B6,r9⟩:=eZ (w5.heap.size);have i6:=iNw wi r9;have ke:=bAl wi;refine wpList_plain rfl (fun K2 ae=>?_);go_simp;refine ae _ _ ?_;clear ae K2;refine wpList_plain rfl (fun K2 ae=>?_);refine aM _ _ _ rfl B6 i6 rfl rfl fq (by rw[fq];kernel_rfl) mx fun w7 j6 jF=>?_;have tz:Bl w5 w7:=ke.trans (jF.below ke.size fun k e=>by omega);have kh:=et.trans (tz.mono et.size);have ju:=c04.trans (kh.mono c04.size);have i2':=i2.of (kh.block _ i2.lt);have i3':=i3.of (kh.block _ i3.lt);have i4':=i4.of (kh.block _ i4.lt);have n5':=n5.of (kh.block _ n5.lt);have jf:Sp w7 B6 A1 f:=⟨by rw[de];exact j6,br.below tz⟩;have Lc:Hid (w.heap.size≤B6∧B2<B6∧B4<B6):=(show _∧_∧_ from by have:=c04.size;have:=et.size;have:=i2.lt;have:=i4.lt;omega);have k0':w7.cell? ⟨B3,0,none⟩=some (.int .i64 kind):=i3'.c rfl;have k1':w7.cell? ⟨B3,1,none⟩=some (.int .i64 tree):=i3'.c rfl;have k2':w7.cell? ⟨B3,2,none⟩=some (.string key):=i3'.c rfl;have k3':w7.cell? ⟨B3,3,none⟩=some (.string val):=i3'.c rfl;refine ae _ _ ?_;clear ae K2 i2 i3 i4 n5 k0 i6 wi bh ci dw cn ke jF tz kh db fk dq qx r9 HD;refine wpList_nil ?_;simp only[Act.put,sB,sZ,sS];have qf:=iT w7 B6 A1 jf (by have:=hI.r16;omega) tree;go_wp2_with fail;refine qf.mono ?_;rintro e w8 ⟨rfl,rfl⟩;clear qf;cases jt:atT f tree with
 | none=>
  have HA:Hid (r=(f,8,0,.empty)):=by
   show r=_
   rw[←Hr.out];have ha:aY f kind tree key val=(0,8):=by unfold aY;rw[if_neg DX.out,if_neg h5,jt]
   unfold opM;rw[ha];rfl
  have hp:plZ f tree=-1:=by unfold plZ;rw[jt]
  rw[hp];clear jt hp;go_wp2;refine fX (d1:=32) (d2:=33) (c:=8) i2' bd ff i4' rfl n5' rfl m24 rfl (fun _ _=>rfl) (fun _ _=>rfl) (fun _ _=>rfl) (fun _ _=>rfl) (by kernel_rfl) (fun _ _ _ _ h=>h) (fun w' j4 j5 jF=>?_);clear i2' i3' i4' n5' k0' k1' k2' k3';simp only[Act.put,sB,sZ,sS];go_wp2;refine bodyPost_ret (v:=.tuple #[.agg XS,.agg #[.int .i64 8,.int .i64 0,.string .empty]]) (bE j4 j5 bd rfl rfl rfl) rfl ?_;rw[HA.out];exact iw.out w' (sv.out _ _ ju jF) 8
 | some t=>
  have fy:=(oM jt).1;have hp:plZ f tree=(t:Int):=by unfold plZ;rw[jt]
  have DS:¬((t:Int)<0):=by omega
  have yy:aY f kind tree key val=if((kind=1∨kind=2∨kind=6)∧12<key.size)∨(kind=1∧10<val.size)then((0,4):Nat×Int)else(t,0):=by unfold aY;rw[if_neg DX.out,if_neg h5,jt]
  rw[hp];clear jt hp DX;by_cases ld:((kind=1∨kind=2∨kind=6)∧12<key.size)∨(kind=1∧10<val.size)
  ·have HA:Hid (r=(f,4,0,.empty)):=by
    show r=_
    rw[←Hr.out];unfold opM;rw[yy,if_pos ld];rfl
   clear yy Hr;by_cases mu:12<key.size
   ·have Kw:(12:Int) <(key.size:Int):=by omega
    have ow:kind=1∨kind=2∨kind=6:=by rcases ld with⟨e,_⟩ | ⟨e,_⟩<;>simp[e]
    clear ld;rcases ow with rfl | rfl | rfl
    ·go_wp2
     refine fX (d1:=65) (d2:=66) (c:=4) i2' bd ff i4' rfl n5' rfl m24 rfl (fun _ _=>rfl) (fun _ _=>rfl) (fun _ _=>rfl) (fun _ _=>rfl) (by kernel_rfl) (fun _ _ _ _ h=>h) (fun w' j4 j5 jF=>?_);clear i2' i3' i4' n5' k0' k1' k2' k3';simp only[Act.put,sB,sZ,sS];go_wp2;refine bodyPost_ret (v:=.tuple #[.agg XS,.agg #[.int .i64 4,.int .i64 0,.string .empty]]) (bE j4 j5 bd rfl rfl rfl) rfl ?_;rw[HA.out];exact iw.out w' (sv.out _ _ ju jF) 4
    ·go_wp2
     refine fX (d1:=65) (d2:=66) (c:=4) i2' bd ff i4' rfl n5' rfl m24 rfl (fun _ _=>rfl) (fun _ _=>rfl) (fun _ _=>rfl) (fun _ _=>rfl) (by kernel_rfl) (fun _ _ _ _ h=>h) (fun w' j4 j5 jF=>?_);clear i2' i3' i4' n5' k0' k1' k2' k3';simp only[Act.put,sB,sZ,sS];go_wp2;refine bodyPost_ret (v:=.tuple #[.agg XS,.agg #[.int .i64 4,.int .i64 0,.string .empty]]) (bE j4 j5 bd rfl rfl rfl) rfl ?_;rw[HA.out];exact iw.out w' (sv.out _ _ ju jF) 4
    ·go_wp2
     refine fX (d1:=65) (d2:=66) (c:=4) i2' bd ff i4' rfl n5' rfl m24 rfl (fun _ _=>rfl) (fun _ _=>rfl) (fun _ _=>rfl) (fun _ _=>rfl) (by kernel_rfl) (fun _ _ _ _ h=>h) (fun w' j4 j5 jF=>?_);clear i2' i3' i4' n5' k0' k1' k2' k3';simp only[Act.put,sB,sZ,sS];go_wp2;refine bodyPost_ret (v:=.tuple #[.agg XS,.agg #[.int .i64 4,.int .i64 0,.string .empty]]) (bE j4 j5 bd rfl rfl rfl) rfl ?_;rw[HA.out];exact iw.out w' (sv.out _ _ ju jF) 4
   ·have Kw:¬(12:Int) <(key.size:Int):=by omega
    have hv:kind=1∧10<val.size:=by rcases ld with⟨_,e⟩ | e;exact absurd e mu;exact e
    obtain⟨rfl,hv⟩:=hv;have XX:(10:Int) <(val.size:Int):=by omega
    clear ld;go_wp2;refine fX (d1:=65) (d2:=66) (c:=4) i2' bd ff i4' rfl n5' rfl m24 rfl (fun _ _=>rfl) (fun _ _=>rfl) (fun _ _=>rfl) (fun _ _=>rfl) (by kernel_rfl) (fun _ _ _ _ h=>h) (fun w' j4 j5 jF=>?_);clear i2' i3' i4' n5' k0' k1' k2' k3';simp only[Act.put,sB,sZ,sS];go_wp2;refine bodyPost_ret (v:=.tuple #[.agg XS,.agg #[.int .i64 4,.int .i64 0,.string .empty]]) (bE j4 j5 bd rfl rfl rfl) rfl ?_;rw[HA.out];exact iw.out w' (sv.out _ _ ju jF) 4
  ·have BF:aY f kind tree key val=(t,0):=by rw[yy,if_neg ld]
   have n54:B5≠B4:=n5'.type_ne i4' (by decide);have Gj:=buildA01;have Vz:=qJ;obtain⟨hW,ez,_⟩:=hI.hOf fy;have pu:Hid (∀w9,Frm (fun k=>k=B6∨k=A1.ga∨k=A1.gr) w8 w9→Bl w w9∧IsC w9 B4 #[.int .i64 0,.slice none 0 0,.slice none 0 0,.int .i64 0,.int .i64 0,.slice none 0 0,.slice none 0 0] 57∧IsC w9 B5 #[.int .i64 0,.int .i64 0,.string {data:=#[]}] 92∧IsC w9 B2 XS 57∧IsC w9 B3 #[.int .i64 kind,.int .i64 tree,.string key,.string val] 63):=fun w9 hF=>by
    have h6:=Lc.out;have Mj:=lT c04.size ue;have ER:=lT c04.size bm;refine⟨ju.trans (hF.below ju.size fun k e=>by rcases e with e | e | e<;>omega),i4'.frm hF ?_,n5'.frm hF ?_,i2'.frm hF ?_,i3'.frm hF ?_⟩
    ·rintro(e | e | e)
     ·omega
     ·exact i4'.type_ne jf.v.nds.arr (by decide) e
     ·exact i4'.type_ne jf.v.rts (by decide) e
    ·rintro(e | e | e)
     ·exact n5'.type_ne jf.box (by decide) e
     ·exact n5'.type_ne jf.v.nds.arr (by decide) e
     ·exact n5'.type_ne jf.v.rts (by decide) e
    ·rintro(e | e | e)
     ·omega
     ·exact i2'.type_ne jf.v.nds.arr (by decide) e
     ·exact i2'.type_ne jf.v.rts (by decide) e
    ·rintro(e | e | e)
     ·exact i3'.type_ne jf.box (by decide) e
     ·exact i3'.type_ne jf.v.nds.arr (by decide) e
     ·exact i3'.type_ne jf.v.rts (by decide) e
   by_cases e3:kind=3
   ·subst e3
    have qw:Hid (r=lX f t):=by
     show r=_
     rw[←Hr.out];unfold opM;rw[BF];rfl
    clear yy BF ld Hr ue bm;by_cases hq:16≤f.roots.length∨65535≤f.next
    ·have kq:=aBE (t:=t) hq w8 B6 A1 jf
     have mf:Hid (r=(f,4,0,.empty)):=by
      show r=_
      rw[qw.out];unfold lX;rw[if_pos hq]
     clear hq;go_wp2_with fail;refine kq.mono ?_;rintro e w9 ⟨rfl,rfl⟩;clear kq;go_upto_region 12 with fail
     refine wp_region_list ?_;refine wpList_plain rfl (fun K2 ae=>?_);refine cK _ rfl B6 j6 rfl fq ?_;refine ae _ _ ?_;clear ae K2;simp only[Act.put,sB,sZ,sS];refine wpList_plain rfl (fun K2 ae=>?_);go_simp;refine ae _ _ ?_;clear ae K2;refine wpList_plain rfl (fun K2 ae=>?_);go_simp;refine ae _ _ ?_;clear ae K2;refine wpList_plain rfl (fun K2 ae=>?_);go_simp;refine ae _ _ ?_;clear ae K2;refine wpList_plain rfl (fun K2 ae=>?_);refine aM _ _ _ rfl B4 i4' rfl rfl fq (by rw[fq];kernel_rfl) mx fun wa ja jaF=>?_;refine ae _ _ ?_;clear ae K2;simp only[Act.put,sB,sZ,sS];refine wpList_plain rfl (fun K2 ae=>?_);refine aM (vs:=#[.int .i64 4,.int .i64 0,.string .empty]) _ _ _ rfl B5 (n5'.frm jaF n54) rfl rfl rfl (by kernel_rfl) (by simp[Value.oneCell']) fun wb jb jbF=>?_;refine ae _ _ ?_;clear ae K2;refine wpList_nil ?_;simp only[Act.put,sB,sZ,sS];have jF:Frm (fun k=>k=B4∨k=B5) w9 wb:=(jaF.wide fun _ _ q=>.inl q).trans (jbF.wide fun _ _ q=>.inr q);have ja':=ja.frm jbF (Ne.symm n54);have je:=aA (show OpP w r (.returned (.tuple #[.agg X1,.agg #[.int .i64 4,.int .i64 0,.string ByteArray.empty]])) wb by rw[mf.out,←de];exact OpP.good jf sr i4' n5' jF (sv.out _ _ ju jF) (4,0,ByteArray.empty));clear ja jaF jbF jF;go_wp2;refine bodyPost_ret (v:=.tuple #[.agg X1,.agg #[.int .i64 4,.int .i64 0,.string .empty]]) (bE ja' jb fq rfl rfl rfl) rfl ?_;exact je.out
    ·have ft:=yZ hI.ic fy (by omega) ⟨by have:=hI.nx;omega,by omega⟩ w8 B6 A1 jf
     have mf:Hid (r=(cU f t,0,f.next,.empty)):=by
      show r=_
      rw[qw.out];unfold lX;rw[if_neg hq]
     clear hq;go_wp2_with fail;refine ft.mono ?_;rintro e w9 ⟨rfl,⟨⟨A2,q7,Ac⟩,wj⟩⟩;obtain⟨o8,i49,n59,_⟩:=pu.out w9 wj;have su:∃a n c,A2.tv=.slice a n c:=by rw[Ac];exact sr
     have lr:=dN q7.v su;have ep:=cX A2 (cU f t);have j62:=q7.box;obtain⟨X2,fz⟩:=eZ (aL A2 (cU f t));rw[fz]at lr ep j62;clear ft wj;go_upto_region 12 with fail
     refine wp_region_list ?_;refine wpList_plain rfl (fun K2 ae=>?_);refine cK _ rfl B6 j62 rfl ep ?_;refine ae _ _ ?_;clear ae K2;simp only[Act.put,sB,sZ,sS];refine wpList_plain rfl (fun K2 ae=>?_);go_simp;refine ae _ _ ?_;clear ae K2;refine wpList_plain rfl (fun K2 ae=>?_);go_simp;refine ae _ _ ?_;clear ae K2;refine wpList_plain rfl (fun K2 ae=>?_);go_simp;refine ae _ _ ?_;clear ae K2;refine wpList_plain rfl (fun K2 ae=>?_);refine aM _ _ _ rfl B4 i49 rfl rfl ep (by rw[ep];kernel_rfl) lr fun wa ja jaF=>?_;refine ae _ _ ?_;clear ae K2;simp only[Act.put,sB,sZ,sS];refine wpList_plain rfl (fun K2 ae=>?_);refine aM (vs:=#[.int .i64 0,.int .i64 f.next,.string .empty]) _ _ _ rfl B5 (n59.frm jaF n54) rfl rfl rfl (by kernel_rfl) (by simp[Value.oneCell']) fun wb jb jbF=>?_;refine ae _ _ ?_;clear ae K2;refine wpList_nil ?_;simp only[Act.put,sB,sZ,sS];have jF:Frm (fun k=>k=B4∨k=B5) w9 wb:=(jaF.wide fun _ _ q=>.inl q).trans (jbF.wide fun _ _ q=>.inr q);have ja':=ja.frm jbF (Ne.symm n54);have je:=aA (show OpP w r (.returned (.tuple #[.agg X2,.agg #[.int .i64 0,.int .i64 f.next,.string ByteArray.empty]])) wb by rw[mf.out,←fz];exact OpP.good q7 su i49 n59 jF (sv.out _ _ o8 jF) (0,f.next,ByteArray.empty));clear ja jaF jbF jF;go_wp2;refine bodyPost_ret (v:=.tuple #[.agg X2,.agg #[.int .i64 0,.int .i64 f.next,.string .empty]]) (bE ja' jb ep rfl rfl rfl) rfl ?_;exact je.out
   by_cases e4:kind=4
   ·subst e4
    have qw:Hid (r=nF f t):=by
     show r=_
     rw[←Hr.out];unfold opM;rw[BF];rfl
    clear yy BF ld Hr ue bm;by_cases hq:f.roots.length=1
    ·have kq:=aEI (t:=t) hq w8 B6 A1 jf
     have mf:Hid (r=(f,18,0,.empty)):=by
      show r=_
      rw[qw.out];unfold nF;rw[if_pos hq]
     clear hq;go_wp2_with fail;refine kq.mono ?_;rintro e w9 ⟨rfl,rfl⟩;clear kq;go_upto_region 15 with fail
     refine wp_region_list ?_;refine wpList_plain rfl (fun K2 ae=>?_);refine cK _ rfl B6 j6 rfl fq ?_;refine ae _ _ ?_;clear ae K2;simp only[Act.put,sB,sZ,sS];refine wpList_plain rfl (fun K2 ae=>?_);go_simp;refine ae _ _ ?_;clear ae K2;refine wpList_plain rfl (fun K2 ae=>?_);go_simp;refine ae _ _ ?_;clear ae K2;refine wpList_plain rfl (fun K2 ae=>?_);go_simp;refine ae _ _ ?_;clear ae K2;refine wpList_plain rfl (fun K2 ae=>?_);refine aM _ _ _ rfl B4 i4' rfl rfl fq (by rw[fq];kernel_rfl) mx fun wa ja jaF=>?_;refine ae _ _ ?_;clear ae K2;simp only[Act.put,sB,sZ,sS];refine wpList_plain rfl (fun K2 ae=>?_);refine aM (vs:=#[.int .i64 18,.int .i64 0,.string .empty]) _ _ _ rfl B5 (n5'.frm jaF n54) rfl rfl rfl (by kernel_rfl) (by simp[Value.oneCell']) fun wb jb jbF=>?_;refine ae _ _ ?_;clear ae K2;refine wpList_nil ?_;simp only[Act.put,sB,sZ,sS];have jF:Frm (fun k=>k=B4∨k=B5) w9 wb:=(jaF.wide fun _ _ q=>.inl q).trans (jbF.wide fun _ _ q=>.inr q);have ja':=ja.frm jbF (Ne.symm n54);have je:=aA (show OpP w r (.returned (.tuple #[.agg X1,.agg #[.int .i64 18,.int .i64 0,.string ByteArray.empty]])) wb by rw[mf.out,←de];exact OpP.good jf sr i4' n5' jF (sv.out _ _ ju jF) (18,0,ByteArray.empty));clear ja jaF jbF jF;go_wp2;refine bodyPost_ret (v:=.tuple #[.agg X1,.agg #[.int .i64 18,.int .i64 0,.string .empty]]) (bE ja' jb fq rfl rfl rfl) rfl ?_;exact je.out
    ·obtain⟨iv,_,oa,CT,Jf,Gs,Tm,Tn,_,To⟩:=wJ hI fy (by have:=hI.ne;omega) hW.ok
     have mf:Hid (r=((drop f t (hOf f t)).1,0,(drop f t (hOf f t)).2,.empty)):=by
      show r=_
      rw[qw.out];unfold nF;rw[if_neg hq]
     have ft:=aBF (Inv.cts hI) (Inv.cts iv) fy (by have:=hI.ne;omega) Jf (fun b d hd=>by rcases To b with e | e;rw[←e];exact hd;rw[e]at hd;cases hd) CT Gs Tm Tn w8 B6 A1 jf;rw[←oa]at ft;obtain⟨dn,Ti⟩:=eZ ((drop f t (hOf f t)).2);obtain⟨dg,CS⟩:=eZ ((drop f t (hOf f t)).1);rw[Ti,CS]at ft mf;clear hq iv oa CT Jf Gs Tm Tn To Ti CS;go_wp2_with fail;refine ft.mono ?_;rintro e w9 ⟨rfl,⟨⟨A2,q7,Ac⟩,wj⟩⟩;obtain⟨o8,i49,n59,_⟩:=pu.out w9 wj;have su:∃a n c,A2.tv=.slice a n c:=by rw[Ac];exact sr
     have lr:=dN q7.v su;have ep:=cX A2 dg;have j62:=q7.box;obtain⟨X2,fz⟩:=eZ (aL A2 dg);rw[fz]at lr ep j62;clear ft wj;go_upto_region 15 with fail
     refine wp_region_list ?_;refine wpList_plain rfl (fun K2 ae=>?_);refine cK _ rfl B6 j62 rfl ep ?_;refine ae _ _ ?_;clear ae K2;simp only[Act.put,sB,sZ,sS];refine wpList_plain rfl (fun K2 ae=>?_);go_simp;refine ae _ _ ?_;clear ae K2;refine wpList_plain rfl (fun K2 ae=>?_);go_simp;refine ae _ _ ?_;clear ae K2;refine wpList_plain rfl (fun K2 ae=>?_);go_simp;refine ae _ _ ?_;clear ae K2;refine wpList_plain rfl (fun K2 ae=>?_);refine aM _ _ _ rfl B4 i49 rfl rfl ep (by rw[ep];kernel_rfl) lr fun wa ja jaF=>?_;refine ae _ _ ?_;clear ae K2;simp only[Act.put,sB,sZ,sS];refine wpList_plain rfl (fun K2 ae=>?_);refine aM (vs:=#[.int .i64 0,.int .i64 dn,.string .empty]) _ _ _ rfl B5 (n59.frm jaF n54) rfl rfl rfl (by kernel_rfl) (by simp[Value.oneCell']) fun wb jb jbF=>?_;refine ae _ _ ?_;clear ae K2;refine wpList_nil ?_;simp only[Act.put,sB,sZ,sS];have jF:Frm (fun k=>k=B4∨k=B5) w9 wb:=(jaF.wide fun _ _ q=>.inl q).trans (jbF.wide fun _ _ q=>.inr q);have ja':=ja.frm jbF (Ne.symm n54);have je:=aA (show OpP w r (.returned (.tuple #[.agg X2,.agg #[.int .i64 0,.int .i64 dn,.string ByteArray.empty]])) wb by rw[mf.out,←fz];exact OpP.good q7 su i49 n59 jF (sv.out _ _ o8 jF) (0,dn,ByteArray.empty));clear ja jaF jbF jF;go_wp2;refine bodyPost_ret (v:=.tuple #[.agg X2,.agg #[.int .i64 0,.int .i64 dn,.string .empty]]) (bE ja' jb ep rfl rfl rfl) rfl ?_;exact je.out
   have bw:=oV hI.ic fy hW.ok key w8 B6 A1 jf;have Kw:¬(12:Int) <(key.size:Int):=fun q=>ld (.inl ⟨by omega,by omega⟩);by_cases e6:kind=6
   ·subst e6
    have qw:Hid (r=nK f t key):=by
     show r=_
     rw[←Hr.out];unfold opM;rw[BF];rfl
    clear yy BF ld Hr ue bm pu;cases lp:Fo.find f.nodes (hOf f t) (aB f t) key with
    | none=>
     have mf:Hid (r=(f,9,0,.empty)):=by show r=_;rw[qw.out];unfold nK;rw[lp]
     rw[lp]at bw;simp only[tX]at bw;clear lp;go_wp2_with fail;refine bw.mono ?_;rintro e w9 ⟨rfl,fu⟩;clear bw;have i29:=i2'.of (fu.block _ i2'.lt);have i39:=i3'.of (fu.block _ i3'.lt);have i49:=i4'.of (fu.block _ i4'.lt);have n59:=n5'.of (fu.block _ n5'.lt);have o8:=ju.trans (fu.mono ju.size);have el:=jf.below fu;have j69:=el.box;rw[de]at j69;have k09:w9.cell? ⟨B3,0,none⟩=some (.int .i64 6):=i39.c rfl;have k29:w9.cell? ⟨B3,2,none⟩=some (.string key):=i39.c rfl;have k39:w9.cell? ⟨B3,3,none⟩=some (.string val):=i39.c rfl;clear fu k0' k1' k2' k3' i2' i3' i4' n5';go_wp2;refine fX (d1:=121) (d2:=122) (c:=9) i29 bd ff i49 rfl n59 rfl m24 rfl (fun _ _=>rfl) (fun _ _=>rfl) (fun _ _=>rfl) (fun _ _=>rfl) (by kernel_rfl) (fun _ _ _ _ h=>h) (fun w' j4 j5 jF=>?_);simp only[Act.put,sB,sZ,sS];have DU:=aA (iw.out w' (sv.out _ _ o8 jF) 9);clear jF;go_wp2;refine bodyPost_ret (v:=.tuple #[.agg XS,.agg #[.int .i64 9,.int .i64 0,.string .empty]]) (bE j4 j5 bd rfl rfl rfl) rfl ?_;rw[mf.out];exact DU.out
    | some v=>
     have mf:Hid (r=(f,0,0,v)):=by show r=_;rw[qw.out];unfold nK;rw[lp]
     rw[lp]at bw;simp only[tX]at bw;clear lp;go_wp2_with fail;refine bw.mono ?_;rintro e w9 ⟨rfl,fu⟩;clear bw;have i29:=i2'.of (fu.block _ i2'.lt);have i39:=i3'.of (fu.block _ i3'.lt);have i49:=i4'.of (fu.block _ i4'.lt);have n59:=n5'.of (fu.block _ n5'.lt);have o8:=ju.trans (fu.mono ju.size);have el:=jf.below fu;have j69:=el.box;rw[de]at j69;have k09:w9.cell? ⟨B3,0,none⟩=some (.int .i64 6):=i39.c rfl;have k29:w9.cell? ⟨B3,2,none⟩=some (.string key):=i39.c rfl;have k39:w9.cell? ⟨B3,3,none⟩=some (.string val):=i39.c rfl;clear fu k0' k1' k2' k3' i2' i3' i4' n5';go_upto_region 28 with fail
     refine wp_region_list ?_;refine wpList_plain rfl (fun K2 ae=>?_);refine cK _ rfl B6 j69 rfl fq ?_;refine ae _ _ ?_;clear ae K2;simp only[Act.put,sB,sZ,sS];refine wpList_plain rfl (fun K2 ae=>?_);go_simp;refine ae _ _ ?_;clear ae K2;refine wpList_plain rfl (fun K2 ae=>?_);go_simp;refine ae _ _ ?_;clear ae K2;refine wpList_plain rfl (fun K2 ae=>?_);refine aM _ _ _ rfl B4 i49 rfl rfl fq (by rw[fq];kernel_rfl) mx fun wa ja jaF=>?_;refine ae _ _ ?_;clear ae K2;simp only[Act.put,sB,sZ,sS];refine wpList_plain rfl (fun K2 ae=>?_);refine aM (vs:=#[.int .i64 0,.int .i64 0,.string v]) _ _ _ rfl B5 (n59.frm jaF n54) rfl rfl rfl (by kernel_rfl) (by simp[Value.oneCell']) fun wb jb jbF=>?_;refine ae _ _ ?_;clear ae K2;refine wpList_nil ?_;simp only[Act.put,sB,sZ,sS];have jF:Frm (fun k=>k=B4∨k=B5) w9 wb:=(jaF.wide fun _ _ q=>.inl q).trans (jbF.wide fun _ _ q=>.inr q);have ja':=ja.frm jbF (Ne.symm n54);have je:=aA (show OpP w r (.returned (.tuple #[.agg X1,.agg #[.int .i64 0,.int .i64 0,.string v]])) wb by rw[mf.out,←de];exact OpP.good el sr i49 n59 jF (sv.out _ _ o8 jF) (0,0,v));clear ja jaF jbF jF;go_wp2;refine bodyPost_ret (v:=.tuple #[.agg X1,.agg #[.int .i64 0,.int .i64 0,.string v]]) (bE ja' jb fq rfl rfl rfl) rfl ?_;exact je.out
   ·exact absurd (by rw[BF]) (UO.out (by omega))
theorem aIZ(W:World):(Instr.build 92 #[]).run Tryz.prog W=.ok (.agg #[.int .i64 0,.int .i64 0,.string .empty]) W:=by kernel_rfl
theorem aHJ(hI:Inv f)(hV:VE f)(tree:Int)(key val:ByteArray)(Dy:(aY f 1 tree key val).2=0)(w:World)(A:SA)(hS:SpV w A f)(iz:∃a n c,A.tv=.slice a n c):
  Calls Tryz.prog 52 #[.agg (aL A f),.agg #[.int .i64 1,.int .i64 tree,.string key,.string val]] w (OpP w (opM f 1 tree key val)):=by
 have q0:¬inB 1 1 6=false:=by decide
 have DT:=aA Dy;clear Dy;have bd:=cX A f;have ff:=dN hS iz;have iw:=aA fun(w':World) (hb:Bl w w') (c:Int)=>OpP.bad hS iz hb c;obtain⟨XS,vh⟩:=eZ (aL A f);rw[vh]at bd ff iw;rw[vh];have Kc:=aA vh;clear vh;obtain⟨r,Hr⟩:∃r,Hid (opM f 1 tree key val=r):=⟨_,rfl⟩;rw[Hr.out];obtain⟨w1,bh⟩:=eZ (w.alloc (.cells XS 57));obtain⟨w2,ci⟩:=eZ (w1.alloc (.cells #[.int .i64 1,.int .i64 tree,.string key,.string val] 63));obtain⟨w3,dw⟩:=eZ (w2.alloc (.cells #[.int .i64 0,.slice none 0 0,.slice none 0 0,.int .i64 0,.int .i64 0,.slice none 0 0,.slice none 0 0] 57));obtain⟨w4,cn⟩:=eZ (w3.alloc (.cells #[.int .i64 0,.int .i64 0,.string {data:=#[]}] 92));obtain⟨B2,db⟩:=eZ (w.heap.size);obtain⟨B3,fk⟩:=eZ (w1.heap.size);obtain⟨B4,dq⟩:=eZ (w2.heap.size);obtain⟨B5,qx⟩:=eZ (w3.heap.size);have nf:∀(u:World) (o:Obj) (v:World),u.alloc o=v→Bl u v∧v.heap.size=u.heap.size+1:=fun u o v e=>by rw[←e];exact⟨(bQ _ u).alloc (nR _) _,by simp⟩
 have nh:∀(u:World) (cs:Array Value) (ty:TypeId) (v:World),u.alloc (.cells cs ty)=v→IsC v u.heap.size cs ty:=fun u cs ty v e=>by rw[←e];exact IsC.new _ _ _
 obtain⟨b1,s1⟩:=nf _ _ _ bh;obtain⟨b2,s2⟩:=nf _ _ _ ci;obtain⟨b3,s3⟩:=nf _ _ _ dw;obtain⟨b4,s4⟩:=nf _ _ _ cn;have n2:=nh _ _ _ _ bh;have n3:=nh _ _ _ _ ci;have n4:=nh _ _ _ _ dw;have n5:=nh _ _ _ _ cn;rw[db]at n2;rw[fk]at n3;rw[dq]at n4;rw[qx]at n5;have c34:Bl w3 w4:=b4;have c24:Bl w2 w4:=b3.trans (c34.mono (by omega));have c14:Bl w1 w4:=b2.trans (c24.mono (by omega));have c04:Bl w w4:=b1.trans (c14.mono (by omega));have i2:IsC w4 B2 XS 57:=n2.of (c14.block _ n2.lt);have i3:=n3.of (c24.block _ n3.lt);have i4:=n4.of (c34.block _ n4.lt);have m24:B2≠B4:=by omega
 have k0:w4.cell? ⟨B3,0,none⟩=some (.int .i64 1):=i3.c rfl;have HD:=aA (aI s1 (aI s2 (aI s3 (aI s4 (aI db (aI fk (aI dq qx)))))));have vd:Hid (w.heap.size≤B4∧w.heap.size≤B5):=(show _∧_ from by omega);have sv:Hid (∀(wz w':World),Bl w wz→Frm (fun k=>k=B4∨k=B5) wz w'→Bl w w'):=fun wz w' hb hF=>hb.trans (hF.below hb.size fun k e=>by have:=vd.out;rcases e with e | e<;>omega);clear nf nh b1 b2 b3 b4 n2 n3 n4 c34 c24 c14 s1 s2 s3 s4;go_enter Tryz.func52,Tryz.ntmps52;have DX:=aA q0;have pp:=mN w4 A (hS.below c04) (by have:=hI.ic.n8;omega) hI.ic.n512 hI.ne (by have:=hI.r16;omega) iz;unfold stV at pp;rw[Kc.out]at pp;have DD:=aA pp;clear q0 pp;go_upto_region 3 with fail
 refine wp_region_list ?_;refine wpList_plain rfl (fun K2 ae=>?_);refine cK _ rfl B2 i2 rfl bd ?_;refine ae _ _ ?_;clear ae K2;simp only[Act.put,sB,sZ,sS];refine wpList_plain rfl (fun K2 ae=>?_);go_simp;refine DD.out.mono ?_;rintro e w5 ⟨A1,rfl,br,Ej,ue,bm,et⟩;refine ae _ _ ?_;clear ae K2 DD;have sr:∃a n c,A1.tv=.slice a n c:=by rw[Ej];exact iz
 have mx:=dN br sr;have fq:=cX A1 f;obtain⟨X1,de⟩:=eZ (aL A1 f);rw[de]at mx fq;rw[de];obtain⟨w6,wi⟩:=eZ (w5.alloc (.cells #[.int .i64 0,.slice none 0 0,.slice none 0 0,.int .i64 0,.int .i64 0,.slice none 0 0,.slice none 0 0] 57));obtain⟨B6,r9⟩:=eZ (w5.heap.size);have i6:=iNw wi r9;have ke:=bAl wi;refine wpList_plain rfl (fun K2 ae=>?_);go_simp;refine ae _ _ ?_;clear ae K2;refine wpList_plain rfl (fun K2 ae=>?_);refine aM _ _ _ rfl B6 i6 rfl rfl fq (by rw[fq];kernel_rfl) mx fun w7 j6 jF=>?_;have tz:Bl w5 w7:=ke.trans (jF.below ke.size fun k e=>by omega);have kh:=et.trans (tz.mono et.size);have ju:=c04.trans (kh.mono c04.size);have i2':=i2.of (kh.block _ i2.lt);have i3':=i3.of (kh.block _ i3.lt);have i4':=i4.of (kh.block _ i4.lt);have n5':=n5.of (kh.block _ n5.lt);have jf:Sp w7 B6 A1 f:=⟨by rw[de];exact j6,br.below tz⟩;have Lc:Hid (w.heap.size≤B6∧B2<B6∧B4<B6):=(show _∧_∧_ from by have:=c04.size;have:=et.size;have:=i2.lt;have:=i4.lt;omega);have k0':w7.cell? ⟨B3,0,none⟩=some (.int .i64 1):=i3'.c rfl;have k1':w7.cell? ⟨B3,1,none⟩=some (.int .i64 tree):=i3'.c rfl;have k2':w7.cell? ⟨B3,2,none⟩=some (.string key):=i3'.c rfl;have k3':w7.cell? ⟨B3,3,none⟩=some (.string val):=i3'.c rfl;refine ae _ _ ?_;clear ae K2 i2 i3 i4 n5 k0 i6 wi bh ci dw cn ke jF tz kh db fk dq qx r9 HD;refine wpList_nil ?_;simp only[Act.put,sB,sZ,sS];have qf:=iT w7 B6 A1 jf (by have:=hI.r16;omega) tree;go_wp2_with fail;refine qf.mono ?_;rintro e w8 ⟨rfl,rfl⟩;clear qf;cases jt:atT f tree with
 | none=>
  have ha:aY f 1 tree key val=(0,8):=by unfold aY;rw[if_neg DX.out,if_neg (by decide),jt]
  have:=DT.out
  rw[ha]at this;cases this
 | some t=>
  have fy:=(oM jt).1;have hp:plZ f tree=(t:Int):=by unfold plZ;rw[jt]
  have DS:¬((t:Int)<0):=by omega
  have yy:aY f 1 tree key val=if(((1:Int)=1∨(1:Int)=2∨(1:Int)=6)∧12<key.size)∨((1:Int)=1∧10<val.size)then((0,4):Nat×Int)else(t,0):=by unfold aY;rw[if_neg DX.out,if_neg (by decide),jt]
  have ld:¬((((1:Int)=1∨(1:Int)=2∨(1:Int)=6)∧12<key.size)∨((1:Int)=1∧10<val.size)):=fun q=>by
   rw[if_pos q]at yy;have:=DT.out;rw[yy]at this;cases this
  rw[if_neg ld]at yy;have Kw:¬(12:Int) <(key.size:Int):=fun q=>ld (.inl ⟨.inl rfl,by omega⟩);have XX:¬(10:Int) <(val.size:Int):=fun q=>ld (.inr ⟨rfl,by omega⟩);rw[hp];obtain⟨hW,ez,_⟩:=hI.hOf fy;have n54:B5≠B4:=n5'.type_ne i4' (by decide);have bw:=oV hI.ic fy hW.ok key w8 B6 A1 jf;have qw:Hid (r=lY f t key val):=by
   show r=_
   rw[←Hr.out];unfold opM;rw[yy];rfl
  obtain⟨fo,Qg⟩:=eZ ((Fo.find f.nodes (hOf f t) (aB f t) key).isSome);obtain⟨gv,Gt⟩:∃v,tX (Fo.find f.nodes (hOf f t) (aB f t) key)=.tuple #[.string v,.bool fo]:=by
   rw[←Qg];cases Fo.find f.nodes (hOf f t) (aB f t) key with
   | none=>exact⟨_,rfl⟩
   | some v=>exact⟨_,rfl⟩
  rw[Gt]at bw;have UY:=aA Qg;clear yy ld Hr jt hp DX Gt Qg;go_wp2_with fail;refine bw.mono ?_;rintro e w9 ⟨rfl,fu⟩;clear bw;have i29:=i2'.of (fu.block _ i2'.lt);have i39:=i3'.of (fu.block _ i3'.lt);have i49:=i4'.of (fu.block _ i4'.lt);have n59:=n5'.of (fu.block _ n5'.lt);have o8:=ju.trans (fu.mono ju.size);have el:=jf.below fu;have j69:=el.box;rw[de]at j69;have k09:w9.cell? ⟨B3,0,none⟩=some (.int .i64 1):=i39.c rfl;have k29:w9.cell? ⟨B3,2,none⟩=some (.string key):=i39.c rfl;have k39:w9.cell? ⟨B3,3,none⟩=some (.string val):=i39.c rfl;clear fu k0' k1' k2' k3' i2' i3' i4' n5';have pu:Hid (∀wk,Frm (fun k=>k=B6∨k=A1.ga∨k=A1.gr) w9 wk→Bl w wk∧IsC wk B4 #[.int .i64 0,.slice none 0 0,.slice none 0 0,.int .i64 0,.int .i64 0,.slice none 0 0,.slice none 0 0] 57∧IsC wk B5 #[.int .i64 0,.int .i64 0,.string {data:=#[]}] 92∧IsC wk B2 XS 57∧IsC wk B3 #[.int .i64 1,.int .i64 tree,.string key,.string val] 63):=fun wk hF=>by
   have h6:=Lc.out;have Mj:=lT c04.size ue;have ER:=lT c04.size bm;refine⟨o8.trans (hF.below o8.size fun k e=>by rcases e with e | e | e<;>omega),i49.frm hF ?_,n59.frm hF ?_,i29.frm hF ?_,i39.frm hF ?_⟩
   ·rintro(e | e | e)
    ·omega
    ·exact i49.type_ne el.v.nds.arr (by decide) e
    ·exact i49.type_ne el.v.rts (by decide) e
   ·rintro(e | e | e)
    ·exact n59.type_ne el.box (by decide) e
    ·exact n59.type_ne el.v.nds.arr (by decide) e
    ·exact n59.type_ne el.v.rts (by decide) e
   ·rintro(e | e | e)
    ·omega
    ·exact i29.type_ne el.v.nds.arr (by decide) e
    ·exact i29.type_ne el.v.rts (by decide) e
   ·rintro(e | e | e)
    ·exact i39.type_ne el.box (by decide) e
    ·exact i39.type_ne el.v.nds.arr (by decide) e
    ·exact i39.type_ne el.v.rts (by decide) e
  have bz:=aEK (key:=key) (val:=val) hW hV hI.r16 w9 B6 A1 el;clear ue bm;go_wp2_with fail;refine bz.mono ?_;intro e wk hz;have Lx:Frm (fun k=>k=B6∨k=A1.ga∨k=A1.gr) w9 wk:=hz.frm.wide fun _ _ q=>.inr q;obtain⟨BT,i4k,n5k,i2k,i3k⟩:=pu.out wk Lx;have k0k:wk.cell? ⟨B3,0,none⟩=some (.int .i64 1):=i3k.c rfl;clear pu bz Lx k09 k29 k39;cases hpu:put f t (hOf f t) key val with
  | none=>
   obtain rfl:=hz.no (by rw[hpu];rfl);have mf:Hid (r=(f,7,0,.empty)):=by show r=_;rw[qw.out];unfold lY;rw[hpu]
   clear hz hpu;go_wp2;refine fX (d1:=112) (d2:=113) (c:=7) i2k bd ff i4k rfl n5k rfl m24 rfl (fun _ _=>rfl) (fun _ _=>rfl) (fun _ _=>rfl) (fun _ _=>rfl) (by kernel_rfl) (fun _ _ _ _ h=>h) (fun w' j4 j5 jF=>?_);simp only[Act.put,sB,sZ,sS];have DU:=aA (iw.out w' (sv.out _ _ BT jF) 7);clear jF;go_wp2;refine bodyPost_ret (v:=.tuple #[.agg XS,.agg #[.int .i64 7,.int .i64 0,.string .empty]]) (bE j4 j5 bd rfl rfl rfl) rfl ?_;rw[mf.out];exact DU.out
  | some gt=>
   obtain⟨g,th⟩:=gt;obtain⟨rfl,A2,q7,DG⟩:=hz.yes g (by rw[hpu];rfl);obtain⟨H',g1,g2,g3⟩:=aBJ hW ez hpu;have c9:=pL (Inv.cts (hI.after g1 g2 g3)) wk B6 A2 q7;have XR:th=fo:=(aER hW hpu).trans UY.out;subst XR;have Cc:Hid (r=if pQ g=true then(g,0,if th then 1 else 0,.empty)else(f,7,0,.empty)):=by
    show r=_
    rw[qw.out];unfold lY;rw[hpu];unfold pQ;by_cases q:fJ g.cur g.com<2*fK g.cur.length
    ·rw[if_neg (by simp;omega)];simp only;rw[if_pos q]
    ·rw[if_pos (by simp;omega)];simp only;rw[if_neg q]
   clear hz hpu g1 g2 g3;obtain⟨rm,Ec⟩:=eZ (pQ g);rw[Ec]at c9 Cc;clear Ec;go_wp2_with fail;refine c9.mono ?_;rintro e wr ⟨rfl,qo⟩;have i2r:=i2k.of (qo.block _ i2k.lt);have i4r:=i4k.of (qo.block _ i4k.lt);have n5r:=n5k.of (qo.block _ n5k.lt);have Cp:=BT.trans (qo.mono BT.size);have AA:=q7.below qo;have su:∃a n c,A2.tv=.slice a n c:=by rw[DG.tv];exact sr
   have lr:=dN AA.v su;have ep:=cX A2 g;have j62:=AA.box;obtain⟨X2,fz⟩:=eZ (aL A2 g);rw[fz]at lr ep j62;clear c9 qo i2k i4k n5k i3k k0k;have QH:=qI;have V4:=aIZ;cases rm with
   | false=>
    have mf:Hid (r=(f,7,0,.empty)):=Cc.out;clear Cc;go_wp2;refine fX (d1:=112) (d2:=113) (c:=7) i2r bd ff i4r rfl n5r rfl m24 rfl (fun _ _=>rfl) (fun _ _=>rfl) (fun _ _=>rfl) (fun _ _=>rfl) (by kernel_rfl) (fun _ _ _ _ h=>h) (fun w' j4 j5 jF=>?_);simp only[Act.put,sB,sZ,sS];have DU:=aA (iw.out w' (sv.out _ _ Cp jF) 7);clear jF;go_wp2;refine bodyPost_ret (v:=.tuple #[.agg XS,.agg #[.int .i64 7,.int .i64 0,.string .empty]]) (bE j4 j5 bd rfl rfl rfl) rfl ?_;rw[mf.out];exact DU.out
   | true=>
    cases th with
    | true=>
     have mf:Hid (r=(g,0,1,.empty)):=Cc.out;clear Cc;go_upto_region 21 with fail
     refine wp_region_list ?_;refine wpList_plain rfl (fun K2 ae=>?_);refine cK _ rfl B6 j62 rfl ep ?_;refine ae _ _ ?_;clear ae K2;simp only[Act.put,sB,sZ,sS];refine wpList_plain rfl (fun K2 ae=>?_);go_simp;refine ae _ _ ?_;clear ae K2;refine wpList_plain rfl (fun K2 ae=>?_);refine aM _ _ _ rfl B4 i4r rfl rfl ep (by rw[ep];kernel_rfl) lr fun wa ja jaF=>?_;refine ae _ _ ?_;clear ae K2;simp only[Act.put,sB,sZ,sS];refine wpList_plain rfl (fun K2 ae=>?_);refine aM (vs:=#[.int .i64 0,.int .i64 1,.string .empty]) _ _ _ rfl B5 (n5r.frm jaF n54) rfl rfl rfl (by kernel_rfl) (by simp[Value.oneCell']) fun wb jb jbF=>?_;refine ae _ _ ?_;clear ae K2;refine wpList_nil ?_;simp only[Act.put,sB,sZ,sS];have jF:Frm (fun k=>k=B4∨k=B5) wr wb:=(jaF.wide fun _ _ q=>.inl q).trans (jbF.wide fun _ _ q=>.inr q);have ja':=ja.frm jbF (Ne.symm n54);have je:=aA (show OpP w r (.returned (.tuple #[.agg X2,.agg #[.int .i64 0,.int .i64 1,.string ByteArray.empty]])) wb by rw[mf.out,←fz];exact OpP.good AA su i4r n5r jF (sv.out _ _ Cp jF) (0,1,ByteArray.empty));clear ja jaF jbF jF;go_wp2;refine bodyPost_ret (v:=.tuple #[.agg X2,.agg #[.int .i64 0,.int .i64 1,.string .empty]]) (bE ja' jb ep rfl rfl rfl) rfl ?_;exact je.out
    | false=>
     have mf:Hid (r=(g,0,0,.empty)):=Cc.out;clear Cc;go_upto_region 22 with fail
     refine wp_region_list ?_;refine wpList_plain rfl (fun K2 ae=>?_);refine cK _ rfl B6 j62 rfl ep ?_;refine ae _ _ ?_;clear ae K2;simp only[Act.put,sB,sZ,sS];refine wpList_plain rfl (fun K2 ae=>?_);go_simp;refine ae _ _ ?_;clear ae K2;refine wpList_plain rfl (fun K2 ae=>?_);refine aM _ _ _ rfl B4 i4r rfl rfl ep (by rw[ep];kernel_rfl) lr fun wa ja jaF=>?_;refine ae _ _ ?_;clear ae K2;simp only[Act.put,sB,sZ,sS];refine wpList_plain rfl (fun K2 ae=>?_);refine aM (vs:=#[.int .i64 0,.int .i64 0,.string .empty]) _ _ _ rfl B5 (n5r.frm jaF n54) rfl rfl rfl (by kernel_rfl) (by simp[Value.oneCell']) fun wb jb jbF=>?_;refine ae _ _ ?_;clear ae K2;refine wpList_nil ?_;simp only[Act.put,sB,sZ,sS];have jF:Frm (fun k=>k=B4∨k=B5) wr wb:=(jaF.wide fun _ _ q=>.inl q).trans (jbF.wide fun _ _ q=>.inr q);have ja':=ja.frm jbF (Ne.symm n54);have je:=aA (show OpP w r (.returned (.tuple #[.agg X2,.agg #[.int .i64 0,.int .i64 0,.string ByteArray.empty]])) wb by rw[mf.out,←fz];exact OpP.good AA su i4r n5r jF (sv.out _ _ Cp jF) (0,0,ByteArray.empty));clear ja jaF jbF jF;go_wp2;refine bodyPost_ret (v:=.tuple #[.agg X2,.agg #[.int .i64 0,.int .i64 0,.string .empty]]) (bE ja' jb ep rfl rfl rfl) rfl ?_;exact je.out
theorem aHI(hI:Inv f)(hV:VE f)(tree:Int)(key val:ByteArray)(Dy:(aY f 2 tree key val).2=0)(w:World)(A:SA)(hS:SpV w A f)(iz:∃a n c,A.tv=.slice a n c):
  Calls Tryz.prog 52 #[.agg (aL A f),.agg #[.int .i64 2,.int .i64 tree,.string key,.string val]] w (OpP w (opM f 2 tree key val)):=by
 have q0:¬inB 2 1 6=false:=by decide
 have DT:=aA Dy;clear Dy;have bd:=cX A f;have ff:=dN hS iz;have iw:=aA fun(w':World) (hb:Bl w w') (c:Int)=>OpP.bad hS iz hb c;obtain⟨XS,vh⟩:=eZ (aL A f);rw[vh]at bd ff iw;rw[vh];have Kc:=aA vh;clear vh;obtain⟨r,Hr⟩:∃r,Hid (opM f 2 tree key val=r):=⟨_,rfl⟩;rw[Hr.out];obtain⟨w1,bh⟩:=eZ (w.alloc (.cells XS 57));obtain⟨w2,ci⟩:=eZ (w1.alloc (.cells #[.int .i64 2,.int .i64 tree,.string key,.string val] 63));obtain⟨w3,dw⟩:=eZ (w2.alloc (.cells #[.int .i64 0,.slice none 0 0,.slice none 0 0,.int .i64 0,.int .i64 0,.slice none 0 0,.slice none 0 0] 57));obtain⟨w4,cn⟩:=eZ (w3.alloc (.cells #[.int .i64 0,.int .i64 0,.string {data:=#[]}] 92));obtain⟨B2,db⟩:=eZ (w.heap.size);obtain⟨B3,fk⟩:=eZ (w1.heap.size);obtain⟨B4,dq⟩:=eZ (w2.heap.size);obtain⟨B5,qx⟩:=eZ (w3.heap.size);have nf:∀(u:World) (o:Obj) (v:World),u.alloc o=v→Bl u v∧v.heap.size=u.heap.size+1:=fun u o v e=>by rw[←e];exact⟨(bQ _ u).alloc (nR _) _,by simp⟩
 have nh:∀(u:World) (cs:Array Value) (ty:TypeId) (v:World),u.alloc (.cells cs ty)=v→IsC v u.heap.size cs ty:=fun u cs ty v e=>by rw[←e];exact IsC.new _ _ _
 obtain⟨b1,s1⟩:=nf _ _ _ bh;obtain⟨b2,s2⟩:=nf _ _ _ ci;obtain⟨b3,s3⟩:=nf _ _ _ dw;obtain⟨b4,s4⟩:=nf _ _ _ cn;have n2:=nh _ _ _ _ bh;have n3:=nh _ _ _ _ ci;have n4:=nh _ _ _ _ dw;have n5:=nh _ _ _ _ cn;rw[db]at n2;rw[fk]at n3;rw[dq]at n4;rw[qx]at n5;have c34:Bl w3 w4:=b4;have c24:Bl w2 w4:=b3.trans (c34.mono (by omega));have c14:Bl w1 w4:=b2.trans (c24.mono (by omega));have c04:Bl w w4:=b1.trans (c14.mono (by omega));have i2:IsC w4 B2 XS 57:=n2.of (c14.block _ n2.lt);have i3:=n3.of (c24.block _ n3.lt);have i4:=n4.of (c34.block _ n4.lt);have m24:B2≠B4:=by omega
 have k0:w4.cell? ⟨B3,0,none⟩=some (.int .i64 2):=i3.c rfl;have HD:=aA (aI s1 (aI s2 (aI s3 (aI s4 (aI db (aI fk (aI dq qx)))))));have vd:Hid (w.heap.size≤B4∧w.heap.size≤B5):=(show _∧_ from by omega);have sv:Hid (∀(wz w':World),Bl w wz→Frm (fun k=>k=B4∨k=B5) wz w'→Bl w w'):=fun wz w' hb hF=>hb.trans (hF.below hb.size fun k e=>by have:=vd.out;rcases e with e | e<;>omega);clear nf nh b1 b2 b3 b4 n2 n3 n4 c34 c24 c14 s1 s2 s3 s4;go_enter Tryz.func52,Tryz.ntmps52;have DX:=aA q0;have pp:=mN w4 A (hS.below c04) (by have:=hI.ic.n8;omega) hI.ic.n512 hI.ne (by have:=hI.r16;omega) iz;unfold stV at pp;rw[Kc.out]at pp;have DD:=aA pp;clear q0 pp;go_upto_region 3 with fail
 refine wp_region_list ?_;refine wpList_plain rfl (fun K2 ae=>?_);refine cK _ rfl B2 i2 rfl bd ?_;refine ae _ _ ?_;clear ae K2;simp only[Act.put,sB,sZ,sS];refine wpList_plain rfl (fun K2 ae=>?_);go_simp;refine DD.out.mono ?_;rintro e w5 ⟨A1,rfl,br,Ej,ue,bm,et⟩;refine ae _ _ ?_;clear ae K2 DD;have sr:∃a n c,A1.tv=.slice a n c:=by rw[Ej];exact iz
 have mx:=dN br sr;have fq:=cX A1 f;obtain⟨X1,de⟩:=eZ (aL A1 f);rw[de]at mx fq;rw[de];obtain⟨w6,wi⟩:=eZ (w5.alloc (.cells #[.int .i64 0,.slice none 0 0,.slice none 0 0,.int .i64 0,.int .i64 0,.slice none 0 0,.slice none 0 0] 57));obtain⟨B6,r9⟩:=eZ (w5.heap.size);have i6:=iNw wi r9;have ke:=bAl wi;refine wpList_plain rfl (fun K2 ae=>?_);go_simp;refine ae _ _ ?_;clear ae K2;refine wpList_plain rfl (fun K2 ae=>?_);refine aM _ _ _ rfl B6 i6 rfl rfl fq (by rw[fq];kernel_rfl) mx fun w7 j6 jF=>?_;have tz:Bl w5 w7:=ke.trans (jF.below ke.size fun k e=>by omega);have kh:=et.trans (tz.mono et.size);have ju:=c04.trans (kh.mono c04.size);have i2':=i2.of (kh.block _ i2.lt);have i3':=i3.of (kh.block _ i3.lt);have i4':=i4.of (kh.block _ i4.lt);have n5':=n5.of (kh.block _ n5.lt);have jf:Sp w7 B6 A1 f:=⟨by rw[de];exact j6,br.below tz⟩;have Lc:Hid (w.heap.size≤B6∧B2<B6∧B4<B6):=(show _∧_∧_ from by have:=c04.size;have:=et.size;have:=i2.lt;have:=i4.lt;omega);have k0':w7.cell? ⟨B3,0,none⟩=some (.int .i64 2):=i3'.c rfl;have k1':w7.cell? ⟨B3,1,none⟩=some (.int .i64 tree):=i3'.c rfl;have k2':w7.cell? ⟨B3,2,none⟩=some (.string key):=i3'.c rfl;have k3':w7.cell? ⟨B3,3,none⟩=some (.string val):=i3'.c rfl;refine ae _ _ ?_;clear ae K2 i2 i3 i4 n5 k0 i6 wi bh ci dw cn ke jF tz kh db fk dq qx r9 HD;refine wpList_nil ?_;simp only[Act.put,sB,sZ,sS];have qf:=iT w7 B6 A1 jf (by have:=hI.r16;omega) tree;go_wp2_with fail;refine qf.mono ?_;rintro e w8 ⟨rfl,rfl⟩;clear qf;cases jt:atT f tree with
 | none=>
  have ha:aY f 2 tree key val=(0,8):=by unfold aY;rw[if_neg DX.out,if_neg (by decide),jt]
  have:=DT.out
  rw[ha]at this;cases this
 | some t=>
  have fy:=(oM jt).1;have hp:plZ f tree=(t:Int):=by unfold plZ;rw[jt]
  have DS:¬((t:Int)<0):=by omega
  have yy:aY f 2 tree key val=if(((2:Int)=1∨(2:Int)=2∨(2:Int)=6)∧12<key.size)∨((2:Int)=1∧10<val.size)then((0,4):Nat×Int)else(t,0):=by unfold aY;rw[if_neg DX.out,if_neg (by decide),jt]
  have ld:¬((((2:Int)=1∨(2:Int)=2∨(2:Int)=6)∧12<key.size)∨((2:Int)=1∧10<val.size)):=fun q=>by
   rw[if_pos q]at yy;have:=DT.out;rw[yy]at this;cases this
  rw[if_neg ld]at yy;have Kw:¬(12:Int) <(key.size:Int):=fun q=>ld (.inl ⟨.inr (.inl rfl),by omega⟩);rw[hp];obtain⟨hW,ez,_⟩:=hI.hOf fy;have n54:B5≠B4:=n5'.type_ne i4' (by decide);have bw:=oV hI.ic fy hW.ok key w8 B6 A1 jf;have qw:Hid (r=mH f t key):=by
   show r=_
   rw[←Hr.out];unfold opM;rw[yy];rfl
  clear yy ld Hr jt hp DX;cases lp:Fo.find f.nodes (hOf f t) (aB f t) key with
  | none=>
   have mf:Hid (r=(f,9,0,.empty)):=by show r=_;rw[qw.out];unfold mH;rw[lp]
   rw[lp]at bw;simp only[tX]at bw;clear lp;go_wp2_with fail;refine bw.mono ?_;rintro e w9 ⟨rfl,fu⟩;clear bw;have i29:=i2'.of (fu.block _ i2'.lt);have i39:=i3'.of (fu.block _ i3'.lt);have i49:=i4'.of (fu.block _ i4'.lt);have n59:=n5'.of (fu.block _ n5'.lt);have o8:=ju.trans (fu.mono ju.size);have el:=jf.below fu;have j69:=el.box;rw[de]at j69;have k09:w9.cell? ⟨B3,0,none⟩=some (.int .i64 2):=i39.c rfl;have k29:w9.cell? ⟨B3,2,none⟩=some (.string key):=i39.c rfl;have k39:w9.cell? ⟨B3,3,none⟩=some (.string val):=i39.c rfl;clear fu k0' k1' k2' k3' i2' i3' i4' n5';go_wp2;refine fX (d1:=121) (d2:=122) (c:=9) i29 bd ff i49 rfl n59 rfl m24 rfl (fun _ _=>rfl) (fun _ _=>rfl) (fun _ _=>rfl) (fun _ _=>rfl) (by kernel_rfl) (fun _ _ _ _ h=>h) (fun w' j4 j5 jF=>?_);simp only[Act.put,sB,sZ,sS];have DU:=aA (iw.out w' (sv.out _ _ o8 jF) 9);clear jF;go_wp2;refine bodyPost_ret (v:=.tuple #[.agg XS,.agg #[.int .i64 9,.int .i64 0,.string .empty]]) (bE j4 j5 bd rfl rfl rfl) rfl ?_;rw[mf.out];exact DU.out
  | some v=>
   have hm:=kS hW.ok lp;rw[lp]at bw;simp only[tX]at bw;go_wp2_with fail;refine bw.mono ?_;rintro e w9 ⟨rfl,fu⟩;clear bw;have i29:=i2'.of (fu.block _ i2'.lt);have i39:=i3'.of (fu.block _ i3'.lt);have i49:=i4'.of (fu.block _ i4'.lt);have n59:=n5'.of (fu.block _ n5'.lt);have o8:=ju.trans (fu.mono ju.size);have el:=jf.below fu;have j69:=el.box;rw[de]at j69;have k09:w9.cell? ⟨B3,0,none⟩=some (.int .i64 2):=i39.c rfl;have k29:w9.cell? ⟨B3,2,none⟩=some (.string key):=i39.c rfl;have k39:w9.cell? ⟨B3,3,none⟩=some (.string val):=i39.c rfl;clear fu k0' k1' k2' k3' i2' i3' i4' n5';have pu:Hid (∀wk,Frm (fun k=>k=B6∨k=A1.ga∨k=A1.gr) w9 wk→Bl w wk∧IsC wk B4 #[.int .i64 0,.slice none 0 0,.slice none 0 0,.int .i64 0,.int .i64 0,.slice none 0 0,.slice none 0 0] 57∧IsC wk B5 #[.int .i64 0,.int .i64 0,.string {data:=#[]}] 92∧IsC wk B2 XS 57∧IsC wk B3 #[.int .i64 2,.int .i64 tree,.string key,.string val] 63):=fun wk hF=>by
    have h6:=Lc.out;have Mj:=lT c04.size ue;have ER:=lT c04.size bm;refine⟨o8.trans (hF.below o8.size fun k e=>by rcases e with e | e | e<;>omega),i49.frm hF ?_,n59.frm hF ?_,i29.frm hF ?_,i39.frm hF ?_⟩
    ·rintro(e | e | e)
     ·omega
     ·exact i49.type_ne el.v.nds.arr (by decide) e
     ·exact i49.type_ne el.v.rts (by decide) e
    ·rintro(e | e | e)
     ·exact n59.type_ne el.box (by decide) e
     ·exact n59.type_ne el.v.nds.arr (by decide) e
     ·exact n59.type_ne el.v.rts (by decide) e
    ·rintro(e | e | e)
     ·omega
     ·exact i29.type_ne el.v.nds.arr (by decide) e
     ·exact i29.type_ne el.v.rts (by decide) e
    ·rintro(e | e | e)
     ·exact i39.type_ne el.box (by decide) e
     ·exact i39.type_ne el.v.nds.arr (by decide) e
     ·exact i39.type_ne el.v.rts (by decide) e
   have bz:=wP hW hV hI.r16 ez hm w9 B6 A1 el;clear ue bm;go_wp2_with fail;refine bz.mono ?_;intro e wk hz;have Lx:Frm (fun k=>k=B6∨k=A1.ga∨k=A1.gr) w9 wk:=hz.frm.wide fun _ _ q=>.inr q;obtain⟨BT,i4k,n5k,i2k,i3k⟩:=pu.out wk Lx;clear pu bz Lx k09 k29 k39;cases hpu:bV f t (hOf f t) key with
   | none=>
    obtain rfl:=hz.no hpu;have mf:Hid (r=(f,7,0,.empty)):=by show r=_;rw[qw.out];unfold mH;rw[lp];simp only;rw[hpu]
    clear hz hpu lp;go_wp2;refine fX (d1:=135) (d2:=136) (c:=7) i2k bd ff i4k rfl n5k rfl m24 rfl (fun _ _=>rfl) (fun _ _=>rfl) (fun _ _=>rfl) (fun _ _=>rfl) (by kernel_rfl) (fun _ _ _ _ h=>h) (fun w' j4 j5 jF=>?_);simp only[Act.put,sB,sZ,sS];have DU:=aA (iw.out w' (sv.out _ _ BT jF) 7);clear jF;go_wp2;refine bodyPost_ret (v:=.tuple #[.agg XS,.agg #[.int .i64 7,.int .i64 0,.string .empty]]) (bE j4 j5 bd rfl rfl rfl) rfl ?_;rw[mf.out];exact DU.out
   | some g=>
    obtain⟨rfl,A2,q7,DG⟩:=hz.yes g hpu;obtain⟨H',g1,g2,g3⟩:=vJ hW ez hm hpu;have c9:=pL (Inv.cts (hI.after g1 g2 g3)) wk B6 A2 q7;have Cc:Hid (r=if pQ g=true then(g,0,0,v)else(f,7,0,.empty)):=by
     show r=_
     rw[qw.out];unfold mH;rw[lp];simp only;rw[hpu];unfold pQ;by_cases q:fJ g.cur g.com<2*fK g.cur.length
     ·rw[if_neg (by simp;omega)];simp only;rw[if_pos q]
     ·rw[if_pos (by simp;omega)];simp only;rw[if_neg q]
    clear hz hpu g1 g2 g3 lp;obtain⟨rm,Ec⟩:=eZ (pQ g);rw[Ec]at c9 Cc;clear Ec;go_wp2_with fail;refine c9.mono ?_;rintro e wr ⟨rfl,qo⟩;have i2r:=i2k.of (qo.block _ i2k.lt);have i4r:=i4k.of (qo.block _ i4k.lt);have n5r:=n5k.of (qo.block _ n5k.lt);have Cp:=BT.trans (qo.mono BT.size);have AA:=q7.below qo;have su:∃a n c,A2.tv=.slice a n c:=by rw[DG.tv];exact sr
    have lr:=dN AA.v su;have ep:=cX A2 g;have j62:=AA.box;obtain⟨X2,fz⟩:=eZ (aL A2 g);rw[fz]at lr ep j62;clear c9 qo i2k i4k n5k i3k;have QH:=qJ;cases rm with
    | false=>
     have mf:Hid (r=(f,7,0,.empty)):=Cc.out;clear Cc;go_wp2;refine fX (d1:=135) (d2:=136) (c:=7) i2r bd ff i4r rfl n5r rfl m24 rfl (fun _ _=>rfl) (fun _ _=>rfl) (fun _ _=>rfl) (fun _ _=>rfl) (by kernel_rfl) (fun _ _ _ _ h=>h) (fun w' j4 j5 jF=>?_);simp only[Act.put,sB,sZ,sS];have DU:=aA (iw.out w' (sv.out _ _ Cp jF) 7);clear jF;go_wp2;refine bodyPost_ret (v:=.tuple #[.agg XS,.agg #[.int .i64 7,.int .i64 0,.string .empty]]) (bE j4 j5 bd rfl rfl rfl) rfl ?_;rw[mf.out];exact DU.out
    | true=>
     have mf:Hid (r=(g,0,0,v)):=Cc.out;clear Cc;go_upto_region 28 with fail
     refine wp_region_list ?_;refine wpList_plain rfl (fun K2 ae=>?_);refine cK _ rfl B6 j62 rfl ep ?_;refine ae _ _ ?_;clear ae K2;simp only[Act.put,sB,sZ,sS];refine wpList_plain rfl (fun K2 ae=>?_);go_simp;refine ae _ _ ?_;clear ae K2;refine wpList_plain rfl (fun K2 ae=>?_);go_simp;refine ae _ _ ?_;clear ae K2;refine wpList_plain rfl (fun K2 ae=>?_);refine aM _ _ _ rfl B4 i4r rfl rfl ep (by rw[ep];kernel_rfl) lr fun wa ja jaF=>?_;refine ae _ _ ?_;clear ae K2;simp only[Act.put,sB,sZ,sS];refine wpList_plain rfl (fun K2 ae=>?_);refine aM (vs:=#[.int .i64 0,.int .i64 0,.string v]) _ _ _ rfl B5 (n5r.frm jaF n54) rfl rfl rfl (by kernel_rfl) (by simp[Value.oneCell']) fun wb jb jbF=>?_;refine ae _ _ ?_;clear ae K2;refine wpList_nil ?_;simp only[Act.put,sB,sZ,sS];have jF:Frm (fun k=>k=B4∨k=B5) wr wb:=(jaF.wide fun _ _ q=>.inl q).trans (jbF.wide fun _ _ q=>.inr q);have ja':=ja.frm jbF (Ne.symm n54);have je:=aA (show OpP w r (.returned (.tuple #[.agg X2,.agg #[.int .i64 0,.int .i64 0,.string v]])) wb by rw[mf.out,←fz];exact OpP.good AA su i4r n5r jF (sv.out _ _ Cp jF) (0,0,v));clear ja jaF jbF jF;go_wp2;refine bodyPost_ret (v:=.tuple #[.agg X2,.agg #[.int .i64 0,.int .i64 0,.string v]]) (bE ja' jb ep rfl rfl rfl) rfl ?_;exact je.out
theorem aHH(hI:Inv f)(hV:VE f)(kind tree:Int)(key val:ByteArray)(h5:kind≠5)(w:World)(A:SA)(hS:SpV w A f)(iz:∃a n c,A.tv=.slice a n c):
  Calls Tryz.prog 52 #[.agg (aL A f),.agg #[.int .i64 kind,.int .i64 tree,.string key,.string val]] w (OpP w (opM f kind tree key val)):=by
 by_cases h0:(aY f kind tree key val).2=0
 ·by_cases e1:kind=1
  ·subst e1;exact aHJ hI hV tree key val h0 w A hS iz
  ·by_cases e2:kind=2
   ·subst e2;exact aHI hI hV tree key val h0 w A hS iz
   ·exact vD hI kind tree key val h5 (fun q=>absurd q (by omega)) w A hS iz
 ·exact vD hI kind tree key val h5 (fun _=>h0) w A hS iz
