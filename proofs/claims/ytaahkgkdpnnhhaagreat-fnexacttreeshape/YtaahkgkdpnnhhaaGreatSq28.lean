import Derived.Test.YtaahkgkdpnnhhaaGreatSq23
set_option maxHeartbeats 9999999
set_option maxRecDepth 99999
set_option linter.all false
namespace Go.Proofs.YtaahkgkdpnnhhaaGreat
open Go.RowKit Fo
variable{V:E3→List VW}{es:List E3}{l:List VW}{g j:Nat}{u:Value}{w w':World}{f:fZ}
theorem aIP(W:World):(Instr.build 92 #[]).run Tryz.prog W=.ok (.agg #[.int .i64 0,.int .i64 0,.string .empty]) W:=by kernel_rfl
theorem aHA(hI:Inv f)(hV:VE f)(tree:Int)(key val:ByteArray)(Dz:(aY f 1 tree key val).2=0)(w:World)(A:SA)(hS:SpV w A f)(jf:∃a n c,A.tv=.slice a n c):
  Calls Tryz.prog 52 #[.agg (aK A f),.agg #[.int .i64 1,.int .i64 tree,.string key,.string val]] w (OpP w (opM f 1 tree key val)):=by
 have q0:¬inB 1 1 6=false:=by decide
 have DS:=aA Dz;clear Dz;have bd:=cZ A f;have ez:=dQ hS jf;have ix:=aA fun(w':World) (hb:Bl w w') (c:Int)=>OpP.bad hS jf hb c;obtain⟨XS,vd⟩:=eZ (aK A f);rw[vd]at bd ez ix;rw[vd];have Ka:=aA vd;clear vd;obtain⟨r,Hr⟩:∃r,Hid (opM f 1 tree key val=r):=⟨_,rfl⟩;rw[Hr.out];obtain⟨w1,be⟩:=eZ (w.alloc (.cells XS 57));obtain⟨w2,bw⟩:=eZ (w1.alloc (.cells #[.int .i64 1,.int .i64 tree,.string key,.string val] 63));obtain⟨w3,dh⟩:=eZ (w2.alloc (.cells #[.int .i64 0,.slice none 0 0,.slice none 0 0,.int .i64 0,.int .i64 0,.slice none 0 0,.slice none 0 0] 57));obtain⟨w4,cn⟩:=eZ (w3.alloc (.cells #[.int .i64 0,.int .i64 0,.string {data:=#[]}] 92));obtain⟨B2,cx⟩:=eZ (w.heap.size);obtain⟨B3,fj⟩:=eZ (w1.heap.size);obtain⟨B4,dm⟩:=eZ (w2.heap.size);obtain⟨B5,qy⟩:=eZ (w3.heap.size);have nf:∀(u:World) (o:Obj) (v:World),u.alloc o=v→Bl u v∧v.heap.size=u.heap.size+1:=fun u o v e=>by rw[←e];exact⟨(bQ _ u).alloc (nR _) _,by simp⟩
 have nh:∀(u:World) (cs:Array Value) (ty:TypeId) (v:World),u.alloc (.cells cs ty)=v→IsC v u.heap.size cs ty:=fun u cs ty v e=>by rw[←e];exact IsC.new _ _ _
 obtain⟨b1,s1⟩:=nf _ _ _ be;obtain⟨b2,s2⟩:=nf _ _ _ bw;obtain⟨b3,s3⟩:=nf _ _ _ dh;obtain⟨b4,s4⟩:=nf _ _ _ cn;have n2:=nh _ _ _ _ be;have n3:=nh _ _ _ _ bw;have n4:=nh _ _ _ _ dh;have n5:=nh _ _ _ _ cn;rw[cx]at n2;rw[fj]at n3;rw[dm]at n4;rw[qy]at n5;have c34:Bl w3 w4:=b4;have c24:Bl w2 w4:=b3.trans (c34.mono (by omega));have c14:Bl w1 w4:=b2.trans (c24.mono (by omega));have c04:Bl w w4:=b1.trans (c14.mono (by omega));have i2:IsC w4 B2 XS 57:=n2.of (c14.block _ n2.lt);have i3:=n3.of (c24.block _ n3.lt);have i4:=n4.of (c34.block _ n4.lt);have m24:B2≠B4:=by omega
 have k0:w4.cell? ⟨B3,0,none⟩=some (.int .i64 1):=i3.c rfl;have HD:=aA (aI s1 (aI s2 (aI s3 (aI s4 (aI cx (aI fj (aI dm qy)))))));have zo:Hid (w.heap.size≤B4∧w.heap.size≤B5):=(show _∧_ from by omega);have sx:Hid (∀(wz w':World),Bl w wz→Frm (fun k=>k=B4∨k=B5) wz w'→Bl w w'):=fun wz w' hb hF=>hb.trans (hF.below hb.size fun k e=>by have:=zo.out;rcases e with e | e<;>omega);clear nf nh b1 b2 b3 b4 n2 n3 n4 c34 c24 c14 s1 s2 s3 s4;go_enter Tryz.func52,Tryz.ntmps52;have DV:=aA q0;have ol:=mL w4 A (hS.below c04) (by have:=hI.ic.n8;omega) hI.ic.n512 hI.ne (by have:=hI.r16;omega) jf;unfold stV at ol;rw[Ka.out]at ol;have DF:=aA ol;clear q0 ol;go_upto_region 3 with fail
 refine wp_region_list ?_;refine wpList_plain rfl (fun K2 ae=>?_);refine cM _ rfl B2 i2 rfl bd ?_;refine ae _ _ ?_;clear ae K2;simp only[Act.put,sB,sZ,sS];refine wpList_plain rfl (fun K2 ae=>?_);go_simp;refine DF.out.mono ?_;rintro e w5 ⟨A1,rfl,br,Eh,wg,bm,et⟩;refine ae _ _ ?_;clear ae K2 DF;have sv:∃a n c,A1.tv=.slice a n c:=by rw[Eh];exact jf
 have my:=dQ br sv;have fl:=cZ A1 f;obtain⟨X1,db⟩:=eZ (aK A1 f);rw[db]at my fl;rw[db];obtain⟨w6,rx⟩:=eZ (w5.alloc (.cells #[.int .i64 0,.slice none 0 0,.slice none 0 0,.int .i64 0,.int .i64 0,.slice none 0 0,.slice none 0 0] 57));obtain⟨B6,sb⟩:=eZ (w5.heap.size);have i6:=iNw rx sb;have kj:=bAl rx;refine wpList_plain rfl (fun K2 ae=>?_);go_simp;refine ae _ _ ?_;clear ae K2;refine wpList_plain rfl (fun K2 ae=>?_);refine aL _ _ _ rfl B6 i6 rfl rfl fl (by rw[fl];kernel_rfl) my fun w7 j6 jF=>?_;have ud:Bl w5 w7:=kj.trans (jF.below kj.size fun k e=>by omega);have ki:=et.trans (ud.mono et.size);have jx:=c04.trans (ki.mono c04.size);have i2':=i2.of (ki.block _ i2.lt);have i3':=i3.of (ki.block _ i3.lt);have i4':=i4.of (ki.block _ i4.lt);have n5':=n5.of (ki.block _ n5.lt);have jo:Sp w7 B6 A1 f:=⟨by rw[db];exact j6,br.below ud⟩;have LR:Hid (w.heap.size≤B6∧B2<B6∧B4<B6):=(show _∧_∧_ from by have:=c04.size;have:=et.size;have:=i2.lt;have:=i4.lt;omega);have k0':w7.cell? ⟨B3,0,none⟩=some (.int .i64 1):=i3'.c rfl;have k1':w7.cell? ⟨B3,1,none⟩=some (.int .i64 tree):=i3'.c rfl;have k2':w7.cell? ⟨B3,2,none⟩=some (.string key):=i3'.c rfl;have k3':w7.cell? ⟨B3,3,none⟩=some (.string val):=i3'.c rfl;refine ae _ _ ?_;clear ae K2 i2 i3 i4 n5 k0 i6 rx be bw dh cn kj jF ud ki cx fj dm qy sb HD;refine wpList_nil ?_;simp only[Act.put,sB,sZ,sS];have qi:=iV w7 B6 A1 jo (by have:=hI.r16;omega) tree;go_wp2_with fail;refine qi.mono ?_;rintro e w8 ⟨rfl,rfl⟩;clear qi;cases jw:atT f tree with
 | none=>
  have ha:aY f 1 tree key val=(0,8):=by unfold aY;rw[if_neg DV.out,if_neg (by decide),jw]
  have:=DS.out
  rw[ha]at this;cases this
 | some t=>
  have fw:=(mC jw).1;have hp:plZ f tree=(t:Int):=by unfold plZ;rw[jw]
  have DR:¬((t:Int)<0):=by omega
  have yr:aY f 1 tree key val=if(((1:Int)=1∨(1:Int)=2∨(1:Int)=6)∧12<key.size)∨((1:Int)=1∧10<val.size)then((0,4):Nat×Int)else(t,0):=by unfold aY;rw[if_neg DV.out,if_neg (by decide),jw]
  have ld:¬((((1:Int)=1∨(1:Int)=2∨(1:Int)=6)∧12<key.size)∨((1:Int)=1∧10<val.size)):=fun q=>by
   rw[if_pos q]at yr;have:=DS.out;rw[yr]at this;cases this
  rw[if_neg ld]at yr;have Kq:¬(12:Int) <(key.size:Int):=fun q=>ld (.inl ⟨.inl rfl,by omega⟩);have XV:¬(10:Int) <(val.size:Int):=fun q=>ld (.inr ⟨rfl,by omega⟩);rw[hp];obtain⟨hW,er,_⟩:=hI.hOf fw;have n54:B5≠B4:=n5'.type_ne i4' (by decide);have bx:=oV hI.ic fw hW.ok key w8 B6 A1 jo;have qx:Hid (r=lV f t key val):=by
   show r=_
   rw[←Hr.out];unfold opM;rw[yr];rfl
  obtain⟨fo,Qg⟩:=eZ ((Fo.find f.nodes (hOf f t) (aB f t) key).isSome);obtain⟨gv,Gu⟩:∃v,uD (Fo.find f.nodes (hOf f t) (aB f t) key)=.tuple #[.string v,.bool fo]:=by
   rw[←Qg];cases Fo.find f.nodes (hOf f t) (aB f t) key with
   | none=>exact⟨_,rfl⟩
   | some v=>exact⟨_,rfl⟩
  rw[Gu]at bx;have UV:=aA Qg;clear yr ld Hr jw hp DV Gu Qg;go_wp2_with fail;refine bx.mono ?_;rintro e w9 ⟨rfl,fu⟩;clear bx;have i29:=i2'.of (fu.block _ i2'.lt);have i39:=i3'.of (fu.block _ i3'.lt);have i49:=i4'.of (fu.block _ i4'.lt);have n59:=n5'.of (fu.block _ n5'.lt);have o6:=jx.trans (fu.mono jx.size);have eX:=jo.below fu;have j69:=eX.box;rw[db]at j69;have k09:w9.cell? ⟨B3,0,none⟩=some (.int .i64 1):=i39.c rfl;have k29:w9.cell? ⟨B3,2,none⟩=some (.string key):=i39.c rfl;have k39:w9.cell? ⟨B3,3,none⟩=some (.string val):=i39.c rfl;clear fu k0' k1' k2' k3' i2' i3' i4' n5';have pt:Hid (∀wk,Frm (fun k=>k=B6∨k=A1.ga∨k=A1.gr) w9 wk→Bl w wk∧IsC wk B4 #[.int .i64 0,.slice none 0 0,.slice none 0 0,.int .i64 0,.int .i64 0,.slice none 0 0,.slice none 0 0] 57∧IsC wk B5 #[.int .i64 0,.int .i64 0,.string {data:=#[]}] 92∧IsC wk B2 XS 57∧IsC wk B3 #[.int .i64 1,.int .i64 tree,.string key,.string val] 63):=fun wk hF=>by
   have h6:=LR.out;have Mb:=lT c04.size wg;have ET:=lT c04.size bm;refine⟨o6.trans (hF.below o6.size fun k e=>by rcases e with e | e | e<;>omega),i49.frm hF ?_,n59.frm hF ?_,i29.frm hF ?_,i39.frm hF ?_⟩
   ·rintro(e | e | e)
    ·omega
    ·exact i49.type_ne eX.v.nds.arr (by decide) e
    ·exact i49.type_ne eX.v.rts (by decide) e
   ·rintro(e | e | e)
    ·exact n59.type_ne eX.box (by decide) e
    ·exact n59.type_ne eX.v.nds.arr (by decide) e
    ·exact n59.type_ne eX.v.rts (by decide) e
   ·rintro(e | e | e)
    ·omega
    ·exact i29.type_ne eX.v.nds.arr (by decide) e
    ·exact i29.type_ne eX.v.rts (by decide) e
   ·rintro(e | e | e)
    ·exact i39.type_ne eX.box (by decide) e
    ·exact i39.type_ne eX.v.nds.arr (by decide) e
    ·exact i39.type_ne eX.v.rts (by decide) e
  have cg:=aEB (key:=key) (val:=val) hW hV hI.r16 w9 B6 A1 eX;clear wg bm;go_wp2_with fail;refine cg.mono ?_;intro e wk hz;have Lo:Frm (fun k=>k=B6∨k=A1.ga∨k=A1.gr) w9 wk:=hz.frm.wide fun _ _ q=>.inr q;obtain⟨BU,i4k,n5k,i2k,i3k⟩:=pt.out wk Lo;have k0k:wk.cell? ⟨B3,0,none⟩=some (.int .i64 1):=i3k.c rfl;clear pt cg Lo k09 k29 k39;cases hpu:put f t (hOf f t) key val with
  | none=>
   obtain rfl:=hz.no (by rw[hpu];rfl);have mf:Hid (r=(f,7,0,.empty)):=by show r=_;rw[qx.out];unfold lV;rw[hpu]
   clear hz hpu;go_wp2;refine fX (d1:=112) (d2:=113) (c:=7) i2k bd ez i4k rfl n5k rfl m24 rfl (fun _ _=>rfl) (fun _ _=>rfl) (fun _ _=>rfl) (fun _ _=>rfl) (by kernel_rfl) (fun _ _ _ _ h=>h) (fun w' j4 j5 jF=>?_);simp only[Act.put,sB,sZ,sS];have DT:=aA (ix.out w' (sx.out _ _ BU jF) 7);clear jF;go_wp2;refine bodyPost_ret (v:=.tuple #[.agg XS,.agg #[.int .i64 7,.int .i64 0,.string .empty]]) (bD j4 j5 bd rfl rfl rfl) rfl ?_;rw[mf.out];exact DT.out
  | some gt=>
   obtain⟨g,th⟩:=gt;obtain⟨rfl,A2,q8,DH⟩:=hz.yes g (by rw[hpu];rfl);obtain⟨H',g1,g2,g3⟩:=aBD hW er hpu;have cy:=pM (Inv.cts (hI.after g1 g2 g3)) wk B6 A2 q8;have XP:th=fo:=(aEI hW hpu).trans UV.out;subst XP;have Cd:Hid (r=if pR g=true then(g,0,if th then 1 else 0,.empty)else(f,7,0,.empty)):=by
    show r=_
    rw[qx.out];unfold lV;rw[hpu];unfold pR;by_cases q:fI g.cur g.com<2*fJ g.cur.length
    ·rw[if_neg (by simp;omega)];simp only;rw[if_pos q]
    ·rw[if_pos (by simp;omega)];simp only;rw[if_neg q]
   clear hz hpu g1 g2 g3;obtain⟨rm,Ea⟩:=eZ (pR g);rw[Ea]at cy Cd;clear Ea;go_wp2_with fail;refine cy.mono ?_;rintro e wr ⟨rfl,qd⟩;have i2r:=i2k.of (qd.block _ i2k.lt);have i4r:=i4k.of (qd.block _ i4k.lt);have n5r:=n5k.of (qd.block _ n5k.lt);have Cq:=BU.trans (qd.mono BU.size);have zz:=q8.below qd;have sw:∃a n c,A2.tv=.slice a n c:=by rw[DH.tv];exact sv
   have lp:=dQ zz.v sw;have ej:=cZ A2 g;have j62:=zz.box;obtain⟨X2,fx⟩:=eZ (aK A2 g);rw[fx]at lp ej j62;clear cy qd i2k i4k n5k i3k k0k;have QH:=qO;have Vv:=aIP;cases rm with
   | false=>
    have mf:Hid (r=(f,7,0,.empty)):=Cd.out;clear Cd;go_wp2;refine fX (d1:=112) (d2:=113) (c:=7) i2r bd ez i4r rfl n5r rfl m24 rfl (fun _ _=>rfl) (fun _ _=>rfl) (fun _ _=>rfl) (fun _ _=>rfl) (by kernel_rfl) (fun _ _ _ _ h=>h) (fun w' j4 j5 jF=>?_);simp only[Act.put,sB,sZ,sS];have DT:=aA (ix.out w' (sx.out _ _ Cq jF) 7);clear jF;go_wp2;refine bodyPost_ret (v:=.tuple #[.agg XS,.agg #[.int .i64 7,.int .i64 0,.string .empty]]) (bD j4 j5 bd rfl rfl rfl) rfl ?_;rw[mf.out];exact DT.out
   | true=>
    cases th with
    | true=>
     have mf:Hid (r=(g,0,1,.empty)):=Cd.out;clear Cd;go_upto_region 21 with fail
     refine wp_region_list ?_;refine wpList_plain rfl (fun K2 ae=>?_);refine cM _ rfl B6 j62 rfl ej ?_;refine ae _ _ ?_;clear ae K2;simp only[Act.put,sB,sZ,sS];refine wpList_plain rfl (fun K2 ae=>?_);go_simp;refine ae _ _ ?_;clear ae K2;refine wpList_plain rfl (fun K2 ae=>?_);refine aL _ _ _ rfl B4 i4r rfl rfl ej (by rw[ej];kernel_rfl) lp fun wa ja jaF=>?_;refine ae _ _ ?_;clear ae K2;simp only[Act.put,sB,sZ,sS];refine wpList_plain rfl (fun K2 ae=>?_);refine aL (vs:=#[.int .i64 0,.int .i64 1,.string .empty]) _ _ _ rfl B5 (n5r.frm jaF n54) rfl rfl rfl (by kernel_rfl) (by simp[Value.oneCell']) fun wb jb jbF=>?_;refine ae _ _ ?_;clear ae K2;refine wpList_nil ?_;simp only[Act.put,sB,sZ,sS];have jF:Frm (fun k=>k=B4∨k=B5) wr wb:=(jaF.wide fun _ _ q=>.inl q).trans (jbF.wide fun _ _ q=>.inr q);have ja':=ja.frm jbF (Ne.symm n54);have oo:=aA (show OpP w r (.returned (.tuple #[.agg X2,.agg #[.int .i64 0,.int .i64 1,.string ByteArray.empty]])) wb by rw[mf.out,←fx];exact OpP.good zz sw i4r n5r jF (sx.out _ _ Cq jF) (0,1,ByteArray.empty));clear ja jaF jbF jF;go_wp2;refine bodyPost_ret (v:=.tuple #[.agg X2,.agg #[.int .i64 0,.int .i64 1,.string .empty]]) (bD ja' jb ej rfl rfl rfl) rfl ?_;exact oo.out
    | false=>
     have mf:Hid (r=(g,0,0,.empty)):=Cd.out;clear Cd;go_upto_region 22 with fail
     refine wp_region_list ?_;refine wpList_plain rfl (fun K2 ae=>?_);refine cM _ rfl B6 j62 rfl ej ?_;refine ae _ _ ?_;clear ae K2;simp only[Act.put,sB,sZ,sS];refine wpList_plain rfl (fun K2 ae=>?_);go_simp;refine ae _ _ ?_;clear ae K2;refine wpList_plain rfl (fun K2 ae=>?_);refine aL _ _ _ rfl B4 i4r rfl rfl ej (by rw[ej];kernel_rfl) lp fun wa ja jaF=>?_;refine ae _ _ ?_;clear ae K2;simp only[Act.put,sB,sZ,sS];refine wpList_plain rfl (fun K2 ae=>?_);refine aL (vs:=#[.int .i64 0,.int .i64 0,.string .empty]) _ _ _ rfl B5 (n5r.frm jaF n54) rfl rfl rfl (by kernel_rfl) (by simp[Value.oneCell']) fun wb jb jbF=>?_;refine ae _ _ ?_;clear ae K2;refine wpList_nil ?_;simp only[Act.put,sB,sZ,sS];have jF:Frm (fun k=>k=B4∨k=B5) wr wb:=(jaF.wide fun _ _ q=>.inl q).trans (jbF.wide fun _ _ q=>.inr q);have ja':=ja.frm jbF (Ne.symm n54);have oo:=aA (show OpP w r (.returned (.tuple #[.agg X2,.agg #[.int .i64 0,.int .i64 0,.string ByteArray.empty]])) wb by rw[mf.out,←fx];exact OpP.good zz sw i4r n5r jF (sx.out _ _ Cq jF) (0,0,ByteArray.empty));clear ja jaF jbF jF;go_wp2;refine bodyPost_ret (v:=.tuple #[.agg X2,.agg #[.int .i64 0,.int .i64 0,.string .empty]]) (bD ja' jb ej rfl rfl rfl) rfl ?_;exact oo.out
theorem aGZ(hI:Inv f)(hV:VE f)(tree:Int)(key val:ByteArray)(Dz:(aY f 2 tree key val).2=0)(w:World)(A:SA)(hS:SpV w A f)(jf:∃a n c,A.tv=.slice a n c):
  Calls Tryz.prog 52 #[.agg (aK A f),.agg #[.int .i64 2,.int .i64 tree,.string key,.string val]] w (OpP w (opM f 2 tree key val)):=by
 have q0:¬inB 2 1 6=false:=by decide
 have DS:=aA Dz;clear Dz;have bd:=cZ A f;have ez:=dQ hS jf;have ix:=aA fun(w':World) (hb:Bl w w') (c:Int)=>OpP.bad hS jf hb c;obtain⟨XS,vd⟩:=eZ (aK A f);rw[vd]at bd ez ix;rw[vd];have Ka:=aA vd;clear vd;obtain⟨r,Hr⟩:∃r,Hid (opM f 2 tree key val=r):=⟨_,rfl⟩;rw[Hr.out];obtain⟨w1,be⟩:=eZ (w.alloc (.cells XS 57));obtain⟨w2,bw⟩:=eZ (w1.alloc (.cells #[.int .i64 2,.int .i64 tree,.string key,.string val] 63));obtain⟨w3,dh⟩:=eZ (w2.alloc (.cells #[.int .i64 0,.slice none 0 0,.slice none 0 0,.int .i64 0,.int .i64 0,.slice none 0 0,.slice none 0 0] 57));obtain⟨w4,cn⟩:=eZ (w3.alloc (.cells #[.int .i64 0,.int .i64 0,.string {data:=#[]}] 92));obtain⟨B2,cx⟩:=eZ (w.heap.size);obtain⟨B3,fj⟩:=eZ (w1.heap.size);obtain⟨B4,dm⟩:=eZ (w2.heap.size);obtain⟨B5,qy⟩:=eZ (w3.heap.size);have nf:∀(u:World) (o:Obj) (v:World),u.alloc o=v→Bl u v∧v.heap.size=u.heap.size+1:=fun u o v e=>by rw[←e];exact⟨(bQ _ u).alloc (nR _) _,by simp⟩
 have nh:∀(u:World) (cs:Array Value) (ty:TypeId) (v:World),u.alloc (.cells cs ty)=v→IsC v u.heap.size cs ty:=fun u cs ty v e=>by rw[←e];exact IsC.new _ _ _
 obtain⟨b1,s1⟩:=nf _ _ _ be;obtain⟨b2,s2⟩:=nf _ _ _ bw;obtain⟨b3,s3⟩:=nf _ _ _ dh;obtain⟨b4,s4⟩:=nf _ _ _ cn;have n2:=nh _ _ _ _ be;have n3:=nh _ _ _ _ bw;have n4:=nh _ _ _ _ dh;have n5:=nh _ _ _ _ cn;rw[cx]at n2;rw[fj]at n3;rw[dm]at n4;rw[qy]at n5;have c34:Bl w3 w4:=b4;have c24:Bl w2 w4:=b3.trans (c34.mono (by omega));have c14:Bl w1 w4:=b2.trans (c24.mono (by omega));have c04:Bl w w4:=b1.trans (c14.mono (by omega));have i2:IsC w4 B2 XS 57:=n2.of (c14.block _ n2.lt);have i3:=n3.of (c24.block _ n3.lt);have i4:=n4.of (c34.block _ n4.lt);have m24:B2≠B4:=by omega
 have k0:w4.cell? ⟨B3,0,none⟩=some (.int .i64 2):=i3.c rfl;have HD:=aA (aI s1 (aI s2 (aI s3 (aI s4 (aI cx (aI fj (aI dm qy)))))));have zo:Hid (w.heap.size≤B4∧w.heap.size≤B5):=(show _∧_ from by omega);have sx:Hid (∀(wz w':World),Bl w wz→Frm (fun k=>k=B4∨k=B5) wz w'→Bl w w'):=fun wz w' hb hF=>hb.trans (hF.below hb.size fun k e=>by have:=zo.out;rcases e with e | e<;>omega);clear nf nh b1 b2 b3 b4 n2 n3 n4 c34 c24 c14 s1 s2 s3 s4;go_enter Tryz.func52,Tryz.ntmps52;have DV:=aA q0;have ol:=mL w4 A (hS.below c04) (by have:=hI.ic.n8;omega) hI.ic.n512 hI.ne (by have:=hI.r16;omega) jf;unfold stV at ol;rw[Ka.out]at ol;have DF:=aA ol;clear q0 ol;go_upto_region 3 with fail
 refine wp_region_list ?_;refine wpList_plain rfl (fun K2 ae=>?_);refine cM _ rfl B2 i2 rfl bd ?_;refine ae _ _ ?_;clear ae K2;simp only[Act.put,sB,sZ,sS];refine wpList_plain rfl (fun K2 ae=>?_);go_simp;refine DF.out.mono ?_;rintro e w5 ⟨A1,rfl,br,Eh,wg,bm,et⟩;refine ae _ _ ?_;clear ae K2 DF;have sv:∃a n c,A1.tv=.slice a n c:=by rw[Eh];exact jf
 have my:=dQ br sv;have fl:=cZ A1 f;obtain⟨X1,db⟩:=eZ (aK A1 f);rw[db]at my fl;rw[db];obtain⟨w6,rx⟩:=eZ (w5.alloc (.cells #[.int .i64 0,.slice none 0 0,.slice none 0 0,.int .i64 0,.int .i64 0,.slice none 0 0,.slice none 0 0] 57));obtain⟨B6,sb⟩:=eZ (w5.heap.size);have i6:=iNw rx sb;have kj:=bAl rx;refine wpList_plain rfl (fun K2 ae=>?_);go_simp;refine ae _ _ ?_;clear ae K2;refine wpList_plain rfl (fun K2 ae=>?_);refine aL _ _ _ rfl B6 i6 rfl rfl fl (by rw[fl];kernel_rfl) my fun w7 j6 jF=>?_;have ud:Bl w5 w7:=kj.trans (jF.below kj.size fun k e=>by omega);have ki:=et.trans (ud.mono et.size);have jx:=c04.trans (ki.mono c04.size);have i2':=i2.of (ki.block _ i2.lt);have i3':=i3.of (ki.block _ i3.lt);have i4':=i4.of (ki.block _ i4.lt);have n5':=n5.of (ki.block _ n5.lt);have jo:Sp w7 B6 A1 f:=⟨by rw[db];exact j6,br.below ud⟩;have LR:Hid (w.heap.size≤B6∧B2<B6∧B4<B6):=(show _∧_∧_ from by have:=c04.size;have:=et.size;have:=i2.lt;have:=i4.lt;omega);have k0':w7.cell? ⟨B3,0,none⟩=some (.int .i64 2):=i3'.c rfl;have k1':w7.cell? ⟨B3,1,none⟩=some (.int .i64 tree):=i3'.c rfl;have k2':w7.cell? ⟨B3,2,none⟩=some (.string key):=i3'.c rfl;have k3':w7.cell? ⟨B3,3,none⟩=some (.string val):=i3'.c rfl;refine ae _ _ ?_;clear ae K2 i2 i3 i4 n5 k0 i6 rx be bw dh cn kj jF ud ki cx fj dm qy sb HD;refine wpList_nil ?_;simp only[Act.put,sB,sZ,sS];have qi:=iV w7 B6 A1 jo (by have:=hI.r16;omega) tree;go_wp2_with fail;refine qi.mono ?_;rintro e w8 ⟨rfl,rfl⟩;clear qi;cases jw:atT f tree with
 | none=>
  have ha:aY f 2 tree key val=(0,8):=by unfold aY;rw[if_neg DV.out,if_neg (by decide),jw]
  have:=DS.out
  rw[ha]at this;cases this
 | some t=>
  have fw:=(mC jw).1;have hp:plZ f tree=(t:Int):=by unfold plZ;rw[jw]
  have DR:¬((t:Int)<0):=by omega
  have yr:aY f 2 tree key val=if(((2:Int)=1∨(2:Int)=2∨(2:Int)=6)∧12<key.size)∨((2:Int)=1∧10<val.size)then((0,4):Nat×Int)else(t,0):=by unfold aY;rw[if_neg DV.out,if_neg (by decide),jw]
  have ld:¬((((2:Int)=1∨(2:Int)=2∨(2:Int)=6)∧12<key.size)∨((2:Int)=1∧10<val.size)):=fun q=>by
   rw[if_pos q]at yr;have:=DS.out;rw[yr]at this;cases this
  rw[if_neg ld]at yr;have Kq:¬(12:Int) <(key.size:Int):=fun q=>ld (.inl ⟨.inr (.inl rfl),by omega⟩);rw[hp];obtain⟨hW,er,_⟩:=hI.hOf fw;have n54:B5≠B4:=n5'.type_ne i4' (by decide);have bx:=oV hI.ic fw hW.ok key w8 B6 A1 jo;have qx:Hid (r=mF f t key):=by
   show r=_
   rw[←Hr.out];unfold opM;rw[yr];rfl
  clear yr ld Hr jw hp DV;cases ll:Fo.find f.nodes (hOf f t) (aB f t) key with
  | none=>
   have mf:Hid (r=(f,9,0,.empty)):=by show r=_;rw[qx.out];unfold mF;rw[ll]
   rw[ll]at bx;simp only[uD]at bx;clear ll;go_wp2_with fail;refine bx.mono ?_;rintro e w9 ⟨rfl,fu⟩;clear bx;have i29:=i2'.of (fu.block _ i2'.lt);have i39:=i3'.of (fu.block _ i3'.lt);have i49:=i4'.of (fu.block _ i4'.lt);have n59:=n5'.of (fu.block _ n5'.lt);have o6:=jx.trans (fu.mono jx.size);have eX:=jo.below fu;have j69:=eX.box;rw[db]at j69;have k09:w9.cell? ⟨B3,0,none⟩=some (.int .i64 2):=i39.c rfl;have k29:w9.cell? ⟨B3,2,none⟩=some (.string key):=i39.c rfl;have k39:w9.cell? ⟨B3,3,none⟩=some (.string val):=i39.c rfl;clear fu k0' k1' k2' k3' i2' i3' i4' n5';go_wp2;refine fX (d1:=121) (d2:=122) (c:=9) i29 bd ez i49 rfl n59 rfl m24 rfl (fun _ _=>rfl) (fun _ _=>rfl) (fun _ _=>rfl) (fun _ _=>rfl) (by kernel_rfl) (fun _ _ _ _ h=>h) (fun w' j4 j5 jF=>?_);simp only[Act.put,sB,sZ,sS];have DT:=aA (ix.out w' (sx.out _ _ o6 jF) 9);clear jF;go_wp2;refine bodyPost_ret (v:=.tuple #[.agg XS,.agg #[.int .i64 9,.int .i64 0,.string .empty]]) (bD j4 j5 bd rfl rfl rfl) rfl ?_;rw[mf.out];exact DT.out
  | some v=>
   have hm:=kQ hW.ok ll;rw[ll]at bx;simp only[uD]at bx;go_wp2_with fail;refine bx.mono ?_;rintro e w9 ⟨rfl,fu⟩;clear bx;have i29:=i2'.of (fu.block _ i2'.lt);have i39:=i3'.of (fu.block _ i3'.lt);have i49:=i4'.of (fu.block _ i4'.lt);have n59:=n5'.of (fu.block _ n5'.lt);have o6:=jx.trans (fu.mono jx.size);have eX:=jo.below fu;have j69:=eX.box;rw[db]at j69;have k09:w9.cell? ⟨B3,0,none⟩=some (.int .i64 2):=i39.c rfl;have k29:w9.cell? ⟨B3,2,none⟩=some (.string key):=i39.c rfl;have k39:w9.cell? ⟨B3,3,none⟩=some (.string val):=i39.c rfl;clear fu k0' k1' k2' k3' i2' i3' i4' n5';have pt:Hid (∀wk,Frm (fun k=>k=B6∨k=A1.ga∨k=A1.gr) w9 wk→Bl w wk∧IsC wk B4 #[.int .i64 0,.slice none 0 0,.slice none 0 0,.int .i64 0,.int .i64 0,.slice none 0 0,.slice none 0 0] 57∧IsC wk B5 #[.int .i64 0,.int .i64 0,.string {data:=#[]}] 92∧IsC wk B2 XS 57∧IsC wk B3 #[.int .i64 2,.int .i64 tree,.string key,.string val] 63):=fun wk hF=>by
    have h6:=LR.out;have Mb:=lT c04.size wg;have ET:=lT c04.size bm;refine⟨o6.trans (hF.below o6.size fun k e=>by rcases e with e | e | e<;>omega),i49.frm hF ?_,n59.frm hF ?_,i29.frm hF ?_,i39.frm hF ?_⟩
    ·rintro(e | e | e)
     ·omega
     ·exact i49.type_ne eX.v.nds.arr (by decide) e
     ·exact i49.type_ne eX.v.rts (by decide) e
    ·rintro(e | e | e)
     ·exact n59.type_ne eX.box (by decide) e
     ·exact n59.type_ne eX.v.nds.arr (by decide) e
     ·exact n59.type_ne eX.v.rts (by decide) e
    ·rintro(e | e | e)
     ·omega
     ·exact i29.type_ne eX.v.nds.arr (by decide) e
     ·exact i29.type_ne eX.v.rts (by decide) e
    ·rintro(e | e | e)
     ·exact i39.type_ne eX.box (by decide) e
     ·exact i39.type_ne eX.v.nds.arr (by decide) e
     ·exact i39.type_ne eX.v.rts (by decide) e
   have cg:=wS hW hV hI.r16 er hm w9 B6 A1 eX;clear wg bm;go_wp2_with fail;refine cg.mono ?_;intro e wk hz;have Lo:Frm (fun k=>k=B6∨k=A1.ga∨k=A1.gr) w9 wk:=hz.frm.wide fun _ _ q=>.inr q;obtain⟨BU,i4k,n5k,i2k,i3k⟩:=pt.out wk Lo;clear pt cg Lo k09 k29 k39;cases hpu:bV f t (hOf f t) key with
   | none=>
    obtain rfl:=hz.no hpu;have mf:Hid (r=(f,7,0,.empty)):=by show r=_;rw[qx.out];unfold mF;rw[ll];simp only;rw[hpu]
    clear hz hpu ll;go_wp2;refine fX (d1:=135) (d2:=136) (c:=7) i2k bd ez i4k rfl n5k rfl m24 rfl (fun _ _=>rfl) (fun _ _=>rfl) (fun _ _=>rfl) (fun _ _=>rfl) (by kernel_rfl) (fun _ _ _ _ h=>h) (fun w' j4 j5 jF=>?_);simp only[Act.put,sB,sZ,sS];have DT:=aA (ix.out w' (sx.out _ _ BU jF) 7);clear jF;go_wp2;refine bodyPost_ret (v:=.tuple #[.agg XS,.agg #[.int .i64 7,.int .i64 0,.string .empty]]) (bD j4 j5 bd rfl rfl rfl) rfl ?_;rw[mf.out];exact DT.out
   | some g=>
    obtain⟨rfl,A2,q8,DH⟩:=hz.yes g hpu;obtain⟨H',g1,g2,g3⟩:=vL hW er hm hpu;have cy:=pM (Inv.cts (hI.after g1 g2 g3)) wk B6 A2 q8;have Cd:Hid (r=if pR g=true then(g,0,0,v)else(f,7,0,.empty)):=by
     show r=_
     rw[qx.out];unfold mF;rw[ll];simp only;rw[hpu];unfold pR;by_cases q:fI g.cur g.com<2*fJ g.cur.length
     ·rw[if_neg (by simp;omega)];simp only;rw[if_pos q]
     ·rw[if_pos (by simp;omega)];simp only;rw[if_neg q]
    clear hz hpu g1 g2 g3 ll;obtain⟨rm,Ea⟩:=eZ (pR g);rw[Ea]at cy Cd;clear Ea;go_wp2_with fail;refine cy.mono ?_;rintro e wr ⟨rfl,qd⟩;have i2r:=i2k.of (qd.block _ i2k.lt);have i4r:=i4k.of (qd.block _ i4k.lt);have n5r:=n5k.of (qd.block _ n5k.lt);have Cq:=BU.trans (qd.mono BU.size);have zz:=q8.below qd;have sw:∃a n c,A2.tv=.slice a n c:=by rw[DH.tv];exact sv
    have lp:=dQ zz.v sw;have ej:=cZ A2 g;have j62:=zz.box;obtain⟨X2,fx⟩:=eZ (aK A2 g);rw[fx]at lp ej j62;clear cy qd i2k i4k n5k i3k;have QH:=qP;cases rm with
    | false=>
     have mf:Hid (r=(f,7,0,.empty)):=Cd.out;clear Cd;go_wp2;refine fX (d1:=135) (d2:=136) (c:=7) i2r bd ez i4r rfl n5r rfl m24 rfl (fun _ _=>rfl) (fun _ _=>rfl) (fun _ _=>rfl) (fun _ _=>rfl) (by kernel_rfl) (fun _ _ _ _ h=>h) (fun w' j4 j5 jF=>?_);simp only[Act.put,sB,sZ,sS];have DT:=aA (ix.out w' (sx.out _ _ Cq jF) 7);clear jF;go_wp2;refine bodyPost_ret (v:=.tuple #[.agg XS,.agg #[.int .i64 7,.int .i64 0,.string .empty]]) (bD j4 j5 bd rfl rfl rfl) rfl ?_;rw[mf.out];exact DT.out
    | true=>
     have mf:Hid (r=(g,0,0,v)):=Cd.out;clear Cd;go_upto_region 28 with fail
     refine wp_region_list ?_;refine wpList_plain rfl (fun K2 ae=>?_);refine cM _ rfl B6 j62 rfl ej ?_;refine ae _ _ ?_;clear ae K2;simp only[Act.put,sB,sZ,sS];refine wpList_plain rfl (fun K2 ae=>?_);go_simp;refine ae _ _ ?_;clear ae K2;refine wpList_plain rfl (fun K2 ae=>?_);go_simp;refine ae _ _ ?_;clear ae K2;refine wpList_plain rfl (fun K2 ae=>?_);refine aL _ _ _ rfl B4 i4r rfl rfl ej (by rw[ej];kernel_rfl) lp fun wa ja jaF=>?_;refine ae _ _ ?_;clear ae K2;simp only[Act.put,sB,sZ,sS];refine wpList_plain rfl (fun K2 ae=>?_);refine aL (vs:=#[.int .i64 0,.int .i64 0,.string v]) _ _ _ rfl B5 (n5r.frm jaF n54) rfl rfl rfl (by kernel_rfl) (by simp[Value.oneCell']) fun wb jb jbF=>?_;refine ae _ _ ?_;clear ae K2;refine wpList_nil ?_;simp only[Act.put,sB,sZ,sS];have jF:Frm (fun k=>k=B4∨k=B5) wr wb:=(jaF.wide fun _ _ q=>.inl q).trans (jbF.wide fun _ _ q=>.inr q);have ja':=ja.frm jbF (Ne.symm n54);have oo:=aA (show OpP w r (.returned (.tuple #[.agg X2,.agg #[.int .i64 0,.int .i64 0,.string v]])) wb by rw[mf.out,←fx];exact OpP.good zz sw i4r n5r jF (sx.out _ _ Cq jF) (0,0,v));clear ja jaF jbF jF;go_wp2;refine bodyPost_ret (v:=.tuple #[.agg X2,.agg #[.int .i64 0,.int .i64 0,.string v]]) (bD ja' jb ej rfl rfl rfl) rfl ?_;exact oo.out
theorem aGY(hI:Inv f)(hV:VE f)(kind tree:Int)(key val:ByteArray)(h5:kind≠5)(w:World)(A:SA)(hS:SpV w A f)(jf:∃a n c,A.tv=.slice a n c):
  Calls Tryz.prog 52 #[.agg (aK A f),.agg #[.int .i64 kind,.int .i64 tree,.string key,.string val]] w (OpP w (opM f kind tree key val)):=by
 by_cases h0:(aY f kind tree key val).2=0
 ·by_cases e1:kind=1
  ·subst e1;exact aHA hI hV tree key val h0 w A hS jf
  ·by_cases e2:kind=2
   ·subst e2;exact aGZ hI hV tree key val h0 w A hS jf
   ·exact vF hI kind tree key val h5 (fun q=>absurd q (by omega)) w A hS jf
 ·exact vF hI kind tree key val h5 (fun _=>h0) w A hS jf
def aKM(p:VW):List Value:=[.int .i64 p.1,.int .i64 p.2.1,.int .i64 p.2.2.1,.int .i64 p.2.2.2.1,.int .i64 p.2.2.2.2]
def yW:Ely VW where
 cell:=aKM
 n:=5
 z:=(0,0,0,0,0)
 zv:=.agg #[.int .i64 0,.int .i64 0,.int .i64 0,.int .i64 0,.int .i64 0]
 t:=82
 s:=34
 by':=40
 hn:=fun _=>rfl
 hp:=by omega
 one:=fun a v hv=>by simp only[aKM,List.mem_cons,List.not_mem_nil,or_false]at hv;rcases hv with rfl | rfl | rfl | rfl | rfl<;>rfl
 hz:=by kernel_rfl
 us:=Tryz.underlying34
 hb:=by omega
 info:=oT (by kernel_rfl)
theorem Ely.Own.one{α:Type}{Y:Ely α}(base:Nat)(w:World)(e:α){cs:Array Value}(hc:cs=(Y.cell e).toArray)(hb:base≤w.heap.size)(hg:g=w.heap.size):Y.Own base (w.alloc (.cells cs Y.t)) (.slice (some ⟨g,0,none⟩) 1 1) [e]:=by
 subst hg;subst hc;refine⟨some w.heap.size,[],rfl,⟨fun g e'=>?_,fun e=>(by cases e),by simp[maxLen]⟩,fun g e=>(by cases e;exact hb)⟩;cases e';have:=IsC.new w (Y.cell e).toArray Y.t;simpa [Ely.row] using this
theorem aFU(W:World)(a b c d e:Int):(Instr.build 82 #[(0,.int .i64 a),(1,.int .i64 b),(2,.int .i64 c),(3,.int .i64 d),(4,.int .i64 e)]).run Tryz.prog W=.ok (.agg #[.int .i64 a,.int .i64 b,.int .i64 c,.int .i64 d,.int .i64 e]) W:=by kernel_rfl
theorem aMH(h:yW.Sl w u l)(hl:0<l.length):∃g o c,u=.slice (some ⟨g,o,none⟩) l.length c∧g<w.heap.size∧∀(w':World) (i:Nat),(w'.heap[g]?=w.heap[g]?)→i<l.length→w'.cell? ⟨g,o+i*5,none⟩=some (.int .i64 (l.getD i yW.z).1)∧w'.cell? ⟨g,o+i*5+1,none⟩=some (.int .i64 (l.getD i yW.z).2.1)∧w'.cell? ⟨g,o+i*5+1+1,none⟩=some (.int .i64 (l.getD i yW.z).2.2.1)∧w'.cell? ⟨g,o+i*5+1+1+1,none⟩=some (.int .i64 (l.getD i yW.z).2.2.2.1)∧w'.cell? ⟨g,o+i*5+1+1+1+1,none⟩=some (.int .i64 (l.getD i yW.z).2.2.2.2):=by
 obtain⟨g,o,c,rfl,hg,hc⟩:=h.at hl;refine⟨g,o,c,rfl,hg,fun w' i he hi=>?_⟩;have hw:∀k,w'.cell? ⟨g,k,none⟩=w.cell? ⟨g,k,none⟩:=fun k=>by simp[World.cell?,he]
 exact⟨(hw _).trans (hc i 0 hi (by decide)),(hw _).trans (hc i 1 hi (by decide)),(hw _).trans (hc i 2 hi (by decide)),(hw _).trans (hc i 3 hi (by decide)),(hw _).trans (hc i 4 hi (by decide))⟩
structure xN(w:World)(g:Nat)(f:fZ):Prop where
 lt:g<w.heap.size
 at':∀i,i<f.cur.length→w.cell? ⟨g,i,none⟩=some (.int .i64 (cu f i))
theorem xN.below(h:xN w g f)(k:Bl w w'):xN w' g f:=⟨lL h.lt k.size,fun i hi=>(k.cell (p:=⟨g,_,none⟩) h.lt).trans (h.at' i hi)⟩
structure InW(w2 w6:World)(B W5:Nat)(l:List VW)(u:Value)(wr:World):Prop where
 own:∃a junk,u=.slice (adr a) l.length (l.length+junk.length)∧yW.Rw wr a l junk∧∀g,a=some g→B≤g∧(g<W5∨w6.heap.size≤g)
 bel:Below B w2 wr
 sz:w6.heap.size≤wr.heap.size
 keep:∀k,W5≤k→k<w6.heap.size→wr.heap[k]?=w6.heap[k]?
theorem InW.step{w2 w6:World}{B W5:Nat}{l':List VW}{wr:World}(h:InW w2 w6 B W5 l u wr){a:Option Nat}{junk:List VW}(h1:yW.Rw wr a l junk)(h2:∀g,a=some g→B≤g∧(g<W5∨w6.heap.size≤g)){a':Option Nat}{junk':List VW}(k1:yW.Rw w' a' l' junk')(k2:∀g,a'=some g→a=some g∨wr.heap.size≤g)(k3:Frm (fun k=>a=some k) wr w')(Es:B≤wr.heap.size):InW w2 w6 B W5 l' (.slice (adr a') l'.length (l'.length+junk'.length)) w':=by
 refine⟨⟨a',junk',rfl,k1,fun g e=>?_⟩,h.bel.trans (k3.below Es fun k e=>(h2 k e).1),lT h.sz k3.size,fun k q1 q2=>?_⟩
 ·rcases k2 g e with q | q
  ·exact h2 g q
  ·exact⟨by omega,.inr (lT h.sz q)⟩
 ·refine(k3.block k (lL q2 h.sz) fun q=>?_).trans (h.keep k q1 q2)
  have:=(h2 k q).2;omega
def vwB(k:Int)(V:E3→List VW)(l:List E3):List VW:=if k=2 then l.flatMap V else []
theorem aIF(hj:j<es.length):vwB 2 V (es.take (j+1))=vwB 2 V (es.take j)++V (es.getD j e0):=by
 unfold vwB;rw[if_pos rfl,if_pos rfl,cC es j e0 hj,List.flatMap_append];simp
theorem aIE(hj:j<es.length):(vwB 2 V (es.take j)).length+(V (es.getD j e0)).length≤(vwB 2 V es).length:=by
 unfold vwB;rw[if_pos rfl,if_pos rfl];have h:=congrArg List.length (mI es V hj);rw[lP,lP]at h;omega
theorem vU(hI:IC f)(S:Nat)(A:SA)(gc cc:Nat)(k:Int)(hk:k=1∨k=2)(b:Nat)(es:List E3)(af:f.nodes b=some (k,es))(ph:es.length≤10)(dp:Int)(WC:0≤dp∧dp≤90000)(V:E3→List VW)(ug:(vwB k V es).length≤90000)(w:World)(hS:Sp w S A f)(hc:xN w gc f)
  (IH:k=2→∀j,j<es.length→∀W,Sp W S A f→xN W gc f→Calls Tryz.prog 40 #[.pointer (some ⟨S,0,none⟩),.slice (some ⟨gc,0,none⟩) f.cur.length cc,.int .i64 (kd es j),.int .i64 (dp+1)] W fun r w'=>∃u,r=.returned u∧yW.Own W.heap.size w' u (V (es.getD j e0))∧Bl W w'):
  Calls Tryz.prog 40 #[.pointer (some ⟨S,0,none⟩),.slice (some ⟨gc,0,none⟩) f.cur.length cc,.int .i64 b,.int .i64 dp] w fun r w'=>∃u,r=.returned u∧yW.Own w.heap.size w' u (((b:Int),dp,k,(es.length:Int),cu f b) :: vwB k V es)∧Bl w w':=by
 have CR:=aFU;obtain⟨_,s1,_⟩:=hS.cells;obtain⟨a,cp,dw,we,_,c0,c1,_⟩:=hS.v.nds.at af;simp only at dw c0 c1;have ms:b<f.cur.length:=hI.lt af;have D5:(b:Int) <(A.ns.length:Int):=by omega
 have X5:(b:Int) <(f.cur.length:Int):=by omega
 have pp:=hc.at' b ms;have bz:0<es.length→_:=fun h=>dW dw h;obtain⟨B,hB⟩:=eZ (w.heap.size);obtain⟨w1,be⟩:=eZ (w.alloc (.cells #[.int .i64 k,.slice a es.length cp] 108));have ao:=bAl be;have bo:=iNw be hB;have io:w1.heap.size=B+1:=by rw[←be,←hB];simp
 have d0:w1.cell? ⟨B,0,none⟩=some (.int .i64 k):=bo.c rfl;have d1:w1.cell? ⟨B,1,none⟩=some (.slice a es.length cp):=bo.c rfl;have QP:w1.cell? ⟨gc,b,none⟩=some (.int .i64 (cu f b)):=(ao.cell (p:=⟨gc,_,none⟩) hc.lt).trans pp;have lr:=aA io;clear io dw;go_enter Tryz.func40,Tryz.ntmps40;go_wp2;go_region_held3 (fun W=>W.cell? ⟨B,0,none⟩=some (.int .i64 k)∧W.cell? ⟨B,1,none⟩=some (.slice a es.length cp)∧W.cell? ⟨gc,b,none⟩=some (.int .i64 (cu f b))) (first | assumption | go_keep) (fail);obtain⟨B1,d9⟩:=eZ (w1.heap.size);obtain⟨w2,bw⟩:=eZ ((w1.alloc (.cells #[.int .i64 b,.int .i64 dp,.int .i64 k,.int .i64 es.length,.int .i64 (cu f b)] 82)).drew);rw[bw,d9];have ba:Bl w1 w2:=by rw[←bw];exact((bQ _ w1).alloc (nR _) _).drew
 have hO:yW.Own B1 w2 (.slice (some ⟨B1,0,none⟩) 1 1) [((b:Int),dp,k,(es.length:Int),cu f b)]:=by
  have:=(Ely.Own.one (Y:=yW) B1 w1 ((b:Int),dp,k,(es.length:Int),cu f b) rfl (by omega) d9.symm).below (bQ _ _).drew
  rw[←bw];exact this
 have io:=lr.out;have Su:B1=B+1:=by omega
 have eu:=bo.of (ba.block _ bo.lt);have ff:=ao.trans (ba.mono ao.size);have rq:B+1≤w2.heap.size:=by have:=ba.size;omega
 have kf:=aA (aI io (aI Su rq));have Nu:Hid (∀wr,Below B1 w2 wr→Bl w wr∧IsC wr B #[.int .i64 k,.slice a es.length cp] 108):=fun wr h=>⟨ff.trans (h.mono (by omega)),eu.of (h.block _ (by omega))⟩;obtain⟨v,HV⟩:∃v:VW,Hid (v=((b:Int),dp,k,(es.length:Int),cu f b)):=⟨_,rfl⟩;rw[←HV.out]at hO;have HK:=aA hk;clear io Su rq bw d9 eu ba bo d0 d1 QP ao be lr c0 c1 s1 hk;go_wp2;go_loopw [10,11,12,13] (fun u i _ _ wr=>∃j:Nat,j≤es.length∧i=.int .i64 j∧yW.Own B1 wr u (v :: vwB k V (es.take j))∧Below B1 w2 wr) (fun _ i _ _ _=>es.length -(intOf i).toNat)
 case atStart=>exact⟨0,by omega,rfl,by simpa [vwB] using hO,bQ _ _⟩
 case round=>
  obtain⟨j,hj,rfl,hR,N9⟩:=hrel;obtain⟨lu,qd⟩:=Nu.out wr N9;have b0:wr.cell? ⟨B,0,none⟩=some (.int .i64 k):=qd.c rfl;have b1:wr.cell? ⟨B,1,none⟩=some (.slice a es.length cp):=qd.c rfl;by_cases ai:j<es.length
  ·have dq:(j:Int) <(es.length:Int):=by omega
   have vo:Hid (j+1≤es.length):=ai;rcases HK.out with rfl | rfl
   ·have hN:Hid (yW.Own B1 wr u10 (v :: vwB 1 V (es.take (j+1)))):=hR
    clear bz qd hR IH;go_wp2;go_roundw
    case rel=>exact⟨j+1,vo.out,by go_num,hN.out,N9⟩
    case measure=>have Mk:=vo.out;simp[intOf];omega
   ·obtain⟨g,o,c,he,hg,aa⟩:=bz (by omega)
    cases he
    obtain⟨_,_,x2⟩:=aa wr j (lu.block g hg) ai;have ol:=hI.child_pos af ai;have jh:(es.getD j e0).2.2=(kd es j:Int):=by unfold kd ch;omega
    rw[jh]at x2;have Cb:=aA (IH rfl j ai wr (hS.below lu) (hc.below lu));have HS:Hid (v :: vwB 2 V (es.take (j+1))=(v :: vwB 2 V (es.take j))++V (es.getD j e0)):=by
     show _=_
     rw[aIF ai];rfl
    have ah:(v :: vwB 2 V (es.take j)).length+(V (es.getD j e0)).length≤100000:=by have:=aIE (V:=V) ai;rw[List.length_cons];omega
    have WD:IntKind.i64.wrap (dp+1)=dp+1:=IntWalk.i64_in _ ⟨by omega,by omega⟩;have AY:B1≤wr.heap.size:=by have:=N9.size;have:=kf.out;omega
    generalize V (es.getD j e0)=bl at *;generalize v :: vwB 2 V (es.take j)=pre at *;clear aa qd jh ol IH bz;go_wp2_with fail;refine Cb.out.mono ?_;rintro r w6 ⟨u2,rfl,CY,kj⟩;obtain⟨ua,uc,rfl⟩:=CY.sl.len;have Lu:InW w2 w6 B1 wr.heap.size pre u10 w6:=by
     obtain⟨ag,junk,q1,q2,q3⟩:=hR;exact⟨⟨ag,junk,q1,q2.frm (Frm.of_below (S:=fun _=>False) kj) fun _ _=>id,fun g' e=>⟨q3 g' e,.inl (q2.arr g' e).lt⟩⟩,N9.trans (kj.mono AY),nR _,fun _ _ _=>rfl⟩
    obtain⟨W5,vb⟩:=eZ (wr.heap.size);have KM:wr.heap.size≤w6.heap.size:=kj.size;rw[vb]at Lu KM;have LZ:Hid (yW.Own W5 w6 (.slice ua bl.length uc) bl):=by show yW.Own _ _ _ _;rw[←vb];exact CY
    clear CY hR vb kj;go_wp2;go_loopw [10,13] (fun u i wx=>∃m:Nat,m≤bl.length∧i=.int .i64 m∧InW w2 w6 B1 W5 (pre++bl.take m) u wx) (fun _ i _=>bl.length -(intOf i).toNat)
    case atStart=>exact⟨0,by omega,rfl,by simpa using Lu⟩
    case round=>
     obtain⟨m,hm,rfl,hR⟩:=hrel;by_cases hlt2:m<bl.length
     ·obtain⟨ag,junk,rfl,q1,q2⟩:=id hR.own
      obtain⟨g3,o3,c3,Fv,Aq,gz⟩:=aMH LZ.out.sl (by omega);cases Fv;have E5:W5≤g3:=by
       obtain⟨a3,j3,e3,_,e4⟩:=LZ.out;cases a3 with
       | none=>simp[adr]at e3
       | some g4=>
        simp only[adr,Option.map_some,Value.slice.injEq,sJ,Addr.mk.injEq]at e3;have:=e4 g4 rfl;omega
      obtain⟨y0,y1,y2,y3,y4⟩:=gz wr m (hR.keep g3 E5 Aq) hlt2;have Tt:(m:Int) <(bl.length:Int):=by omega
      have qf:(pre++bl.take m).length<1000000:=by simp;omega
      have HT:Hid (pre++bl.take (m+1)=pre++bl.take m++[((bl.getD m yW.z).1,(bl.getD m yW.z).2.1,(bl.getD m yW.z).2.2.1,(bl.getD m yW.z).2.2.2.1,(bl.getD m yW.z).2.2.2.2)]):=by
       show _=_
       rw[cC bl m yW.z hlt2,List.append_assoc]
      have Es:B1≤wr.heap.size:=lT (by have:=kf.out;omega) hR.bel.size;have HR:=aA hR;generalize (bl.getD m yW.z).1=z1 at *;generalize (bl.getD m yW.z).2.1=z2 at *;generalize (bl.getD m yW.z).2.2.1=z3 at *;generalize (bl.getD m yW.z).2.2.2.1=z4 at *;generalize (bl.getD m yW.z).2.2.2.2=z5 at *;have qn:Hid (∀a' junk' w',yW.Rw w' a' (pre++bl.take m++[(z1,z2,z3,z4,z5)]) junk'→(∀g,a'=some g→ag=some g∨wr.heap.size≤g)→Frm (fun k=>ag=some k) wr w'→InW w2 w6 B1 W5 (pre++bl.take (m+1)) (.slice (adr a') (pre++bl.take m++[(z1,z2,z3,z4,z5)]).length ((pre++bl.take m++[(z1,z2,z3,z4,z5)]).length+junk'.length)) w'):=fun a' junk' w' k1 k2 k3=>by
       rw[HT.out];exact HR.out.step q1 q2 k1 k2 k3 Es
      generalize pre++bl.take m=pm at *;have Cc:Hid (m+1≤bl.length):=hlt2;clear gz hR;go_wp2_with (first | (at_builtin;refine yW.wpApp1F rfl _ _ rfl q1 rfl (z1,z2,z3,z4,z5) rfl rfl qf ?_;intro a' junk' w7 k1 k2 k3;have Ls:=qn.out a' junk' w7 k1 k2 k3;clear qn) | go_in);go_roundw
      case rel=>
       have e9:(pm++[(z1,z2,z3,z4,z5)]).length=pm.length+1:=by simp
       rw[e9]at Ls;exact⟨m+1,Cc.out,by go_num,Ls⟩
      case measure=>have Mk:=Cc.out;simp[intOf];omega
     ·obtain rfl:m=bl.length:=by omega
      rw[List.take_of_length_le (nR _),←HS.out]at hR;have HI:Hid (yW.Own B1 wr u10 (v :: vwB 2 V (es.take (j+1)))∧Below B1 w2 wr):=by
       obtain⟨ag,junk,q0,q1,q2⟩:=hR.own;exact⟨⟨ag,junk,q0,q1,fun g' e=>(q2 g' e).1⟩,hR.bel⟩
      clear hR;go_wp2;go_roundw
      case rel=>exact⟨j+1,vo.out,by go_num,HI.out⟩
      case measure=>have Mk:=vo.out;simp[intOf];omega
  ·obtain rfl:j=es.length:=by omega
   rw[List.take_of_length_le (nR _)]at hR;have HR:Hid (yW.Own w.heap.size wr u10 (v :: vwB k V es)∧Bl w wr):=⟨hR.base (by have:=kf.out;omega),lu⟩;clear bz hR qd IH;go_wp2;go_ret;have q:=HR.out.1;rw[HV.out]at q;exact⟨_,rfl,q,HR.out.2⟩
theorem sF(hI:IC f)(S:Nat)(A:SA)(gc cc:Nat):
  ∀(h b:Nat) (lo hi:OB) (dp:Int) (w:World),Ok f.nodes h b lo hi→(cG f h b dp).length≤80000→0≤dp→dp+h≤90000→Sp w S A f→xN w gc f→
   Calls Tryz.prog 40 #[.pointer (some ⟨S,0,none⟩),.slice (some ⟨gc,0,none⟩) f.cur.length cc,.int .i64 b,.int .i64 dp] w fun r w'=>∃u,r=.returned u∧yW.Own w.heap.size w' u (cG f h b dp)∧Bl w w'
 | 0,b,lo,hi,dp,w,hk,ug,h0,h9,hS,hc=>by
  obtain⟨es,af,qg,_⟩:=hk;have:=qg.le5;have e:cG f 0 b dp=((b:Int),dp,1,(es.length:Int),cu f b) :: vwB 1 (fun _=>[]) es:=by simp only[cG,pU,eW af];rfl
  rw[e];exact vU hI S A gc cc 1 (.inl rfl) b es af (by omega) dp ⟨h0,by omega⟩ _ (by simp[vwB]) w hS hc (fun q=>absurd q (by omega))
 | h+1,b,lo,hi,dp,w,hk,ug,h0,h9,hS,hc=>by
  obtain⟨es,af,qg,av,h4,pd⟩:=hk;have:=qg.le5;have e:cG f (h+1) b dp=((b:Int),dp,2,(es.length:Int),cu f b) :: vwB 2 (fun e=>cG f h (ch e) (dp+1)) es:=by simp only[cG,pU,eW af];rfl
  rw[e]at ug ⊢;rw[List.length_cons]at ug;refine vU hI S A gc cc 2 (.inr rfl) b es af (by omega) dp ⟨h0,by omega⟩ _ (by omega) w hS hc fun _ j hj W BP bj=>?_;have:=aIE (V:=fun e=>cG f h (ch e) (dp+1)) hj;exact sF hI S A gc cc h (kd es j) _ _ (dp+1) W (pd j hj).2 (by unfold kd;omega) (by omega) (by omega) BP bj
