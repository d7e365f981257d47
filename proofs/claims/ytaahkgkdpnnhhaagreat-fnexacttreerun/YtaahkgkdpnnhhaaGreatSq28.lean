import Derived.Test.YtaahkgkdpnnhhaaGreatSq25
set_option maxHeartbeats 9999999
set_option maxRecDepth 99999
set_option linter.all false
namespace Go.Proofs.YtaahkgkdpnnhhaaGreat
open Go.RowKit Fo
theorem aIP(W:World):(Instr.build 92 #[]).run Tryz.prog W=.ok (.agg #[.int .i64 0,.int .i64 0,.string .empty]) W:=by kernel_rfl
theorem aGU{f:fZ}(hI:Inv f)(hV:VE f)(tree:Int)(key val:ByteArray)(hadm:(aX f 1 tree key val).2=0)(w:World)(A:SA)(hS:SpV w A f)(htv:∃a n c,A.tv=.slice a n c):
  Calls Tryz.prog 52 #[.agg (aL A f),.agg #[.int .i64 1,.int .i64 tree,.string key,.string val]] w (OpP w (opM f 1 tree key val)):=by
 have q0:¬inB 1 1 6=false:=by decide
 have HADM:=aA hadm;clear hadm;have hsz:=cU A f;have hone:=dO hS htv;have HBAD:=aA fun(w':World) (hb:Bl w w') (c:Int)=>OpP.bad hS htv hb c;obtain⟨XS,hXS⟩:=eZ (aL A f);rw[hXS]at hsz hone HBAD;rw[hXS];have HXS:=aA hXS;clear hXS;obtain⟨r,Hr⟩:∃r,Hid (opM f 1 tree key val=r):=⟨_,rfl⟩;rw[Hr.out];obtain⟨w1,hw1⟩:=eZ (w.alloc (.cells XS 57));obtain⟨w2,hw2⟩:=eZ (w1.alloc (.cells #[.int .i64 1,.int .i64 tree,.string key,.string val] 63));obtain⟨w3,hw3⟩:=eZ (w2.alloc (.cells #[.int .i64 0,.slice none 0 0,.slice none 0 0,.int .i64 0,.int .i64 0,.slice none 0 0,.slice none 0 0] 57));obtain⟨w4,hw4⟩:=eZ (w3.alloc (.cells #[.int .i64 0,.int .i64 0,.string {data:=#[]}] 92));obtain⟨B2,hB2⟩:=eZ (w.heap.size);obtain⟨B3,hB3⟩:=eZ (w1.heap.size);obtain⟨B4,hB4⟩:=eZ (w2.heap.size);obtain⟨B5,hB5⟩:=eZ (w3.heap.size);have hBx:∀(u:World) (o:Obj) (v:World),u.alloc o=v→Bl u v∧v.heap.size=u.heap.size+1:=fun u o v e=>by rw[←e];exact⟨(bQ _ u).alloc (nR _) _,by simp⟩
 have hNx:∀(u:World) (cs:Array Value) (ty:TypeId) (v:World),u.alloc (.cells cs ty)=v→IsC v u.heap.size cs ty:=fun u cs ty v e=>by rw[←e];exact IsC.new _ _ _
 obtain⟨b1,s1⟩:=hBx _ _ _ hw1;obtain⟨b2,s2⟩:=hBx _ _ _ hw2;obtain⟨b3,s3⟩:=hBx _ _ _ hw3;obtain⟨b4,s4⟩:=hBx _ _ _ hw4;have n2:=hNx _ _ _ _ hw1;have n3:=hNx _ _ _ _ hw2;have n4:=hNx _ _ _ _ hw3;have n5:=hNx _ _ _ _ hw4;rw[hB2]at n2;rw[hB3]at n3;rw[hB4]at n4;rw[hB5]at n5;have c34:Bl w3 w4:=b4;have c24:Bl w2 w4:=b3.trans (c34.mono (by omega));have c14:Bl w1 w4:=b2.trans (c24.mono (by omega));have c04:Bl w w4:=b1.trans (c14.mono (by omega));have i2:IsC w4 B2 XS 57:=n2.of (c14.block _ n2.lt);have i3:=n3.of (c24.block _ n3.lt);have i4:=n4.of (c34.block _ n4.lt);have m24:B2≠B4:=by omega
 have k0:w4.cell? ⟨B3,0,none⟩=some (.int .i64 1):=i3.c rfl;have HD:=aA (aI s1 (aI s2 (aI s3 (aI s4 (aI hB2 (aI hB3 (aI hB4 hB5)))))));have HLO:Hid (w.heap.size≤B4∧w.heap.size≤B5):=(show _∧_ from by omega);have HB5:Hid (∀(wz w':World),Bl w wz→Frm (fun k=>k=B4∨k=B5) wz w'→Bl w w'):=fun wz w' hb hF=>hb.trans (hF.below hb.size fun k e=>by have:=HLO.out;rcases e with e | e<;>omega);clear hBx hNx b1 b2 b3 b4 n2 n3 n4 c34 c24 c14 s1 s2 s3 s4;go_enter Tryz.func52,Tryz.ntmps52;have HQ0:=aA q0;have hcp:=mM w4 A (hS.below c04) (by have:=hI.ic.n8;omega) hI.ic.n512 hI.ne (by have:=hI.r16;omega) htv;unfold stV at hcp;rw[HXS.out]at hcp;have HCP:=aA hcp;clear q0 hcp;go_upto_region 3 with fail
 refine wp_region_list ?_;refine wpList_plain rfl (fun K2 hK2=>?_);refine cJ _ rfl B2 i2 rfl hsz ?_;refine hK2 _ _ ?_;clear hK2 K2;simp only[Act.put,sB,sZ,sS];refine wpList_plain rfl (fun K2 hK2=>?_);go_simp;refine HCP.out.mono ?_;rintro e w5 ⟨A1,rfl,hS1,htv1,hga,hgr,hb5⟩;refine hK2 _ _ ?_;clear hK2 K2 HCP;have htv':∃a n c,A1.tv=.slice a n c:=by rw[htv1];exact htv
 have hone1:=dO hS1 htv';have hsz1:=cU A1 f;obtain⟨X1,hX1⟩:=eZ (aL A1 f);rw[hX1]at hone1 hsz1;rw[hX1];obtain⟨w6,hw6⟩:=eZ (w5.alloc (.cells #[.int .i64 0,.slice none 0 0,.slice none 0 0,.int .i64 0,.int .i64 0,.slice none 0 0,.slice none 0 0] 57));obtain⟨B6,hB6⟩:=eZ (w5.heap.size);have i6:=iNw hw6 hB6;have hb6:=bAl hw6;refine wpList_plain rfl (fun K2 hK2=>?_);go_simp;refine hK2 _ _ ?_;clear hK2 K2;refine wpList_plain rfl (fun K2 hK2=>?_);refine aK _ _ _ rfl B6 i6 rfl rfl hsz1 (by rw[hsz1];kernel_rfl) hone1 fun w7 j6 jF=>?_;have hb57:Bl w5 w7:=hb6.trans (jF.below hb6.size fun k e=>by omega);have hb47:=hb5.trans (hb57.mono hb5.size);have hb07:=c04.trans (hb47.mono c04.size);have i2':=i2.of (hb47.block _ i2.lt);have i3':=i3.of (hb47.block _ i3.lt);have i4':=i4.of (hb47.block _ i4.lt);have n5':=n5.of (hb47.block _ n5.lt);have hSp:Sp w7 B6 A1 f:=⟨by rw[hX1];exact j6,hS1.below hb57⟩;have HN6:Hid (w.heap.size≤B6∧B2<B6∧B4<B6):=(show _∧_∧_ from by have:=c04.size;have:=hb5.size;have:=i2.lt;have:=i4.lt;omega);have k0':w7.cell? ⟨B3,0,none⟩=some (.int .i64 1):=i3'.c rfl;have k1':w7.cell? ⟨B3,1,none⟩=some (.int .i64 tree):=i3'.c rfl;have k2':w7.cell? ⟨B3,2,none⟩=some (.string key):=i3'.c rfl;have k3':w7.cell? ⟨B3,3,none⟩=some (.string val):=i3'.c rfl;refine hK2 _ _ ?_;clear hK2 K2 i2 i3 i4 n5 k0 i6 hw6 hw1 hw2 hw3 hw4 hb6 jF hb57 hb47 hB2 hB3 hB4 hB5 hB6 HD;refine wpList_nil ?_;simp only[Act.put,sB,sZ,sS];have hpl:=lI w7 B6 A1 hSp (by have:=hI.r16;omega) tree;go_wp2_with fail;refine hpl.mono ?_;rintro e w8 ⟨rfl,rfl⟩;clear hpl;cases hat:atT f tree with
 | none=>
  have ha:aX f 1 tree key val=(0,8):=by unfold aX;rw[if_neg HQ0.out,if_neg (by decide),hat]
  have:=HADM.out
  rw[ha]at this;cases this
 | some t=>
  have htl:=(xH hat).1;have hp:plZ f tree=(t:Int):=by unfold plZ;rw[hat]
  have htn:¬((t:Int)<0):=by omega
  have hAM:aX f 1 tree key val=if(((1:Int)=1∨(1:Int)=2∨(1:Int)=6)∧12<key.size)∨((1:Int)=1∧10<val.size)then((0,4):Nat×Int)else(t,0):=by unfold aX;rw[if_neg HQ0.out,if_neg (by decide),hat]
  have hlim:¬((((1:Int)=1∨(1:Int)=2∨(1:Int)=6)∧12<key.size)∨((1:Int)=1∧10<val.size)):=fun q=>by
   rw[if_pos q]at hAM;have:=HADM.out;rw[hAM]at this;cases this
  rw[if_neg hlim]at hAM;have hkI:¬(12:Int) <(key.size:Int):=fun q=>hlim (.inl ⟨.inl rfl,by omega⟩);have hvI:¬(10:Int) <(val.size:Int):=fun q=>hlim (.inr ⟨rfl,by omega⟩);rw[hp];obtain⟨hW,hrt,_⟩:=hI.hOf htl;have n54:B5≠B4:=n5'.type_ne i4' (by decide);have hget:=pE hI.ic htl hW.ok key w8 B6 A1 hSp;have HOP:Hid (r=lY f t key val):=by
   show r=_
   rw[←Hr.out];unfold opM;rw[hAM];rfl
  obtain⟨fo,hfo⟩:=eZ ((Fo.find f.nodes (hOf f t) (aB f t) key).isSome);obtain⟨gv,hgv⟩:∃v,uE (Fo.find f.nodes (hOf f t) (aB f t) key)=.tuple #[.string v,.bool fo]:=by
   rw[←hfo];cases Fo.find f.nodes (hOf f t) (aB f t) key with
   | none=>exact⟨_,rfl⟩
   | some v=>exact⟨_,rfl⟩
  rw[hgv]at hget;have HFO:=aA hfo;clear hAM hlim Hr hat hp HQ0 hgv hfo;go_wp2_with fail;refine hget.mono ?_;rintro e w9 ⟨rfl,hb9⟩;clear hget;have i29:=i2'.of (hb9.block _ i2'.lt);have i39:=i3'.of (hb9.block _ i3'.lt);have i49:=i4'.of (hb9.block _ i4'.lt);have n59:=n5'.of (hb9.block _ n5'.lt);have hb09:=hb07.trans (hb9.mono hb07.size);have hSp9:=hSp.below hb9;have j69:=hSp9.box;rw[hX1]at j69;have k09:w9.cell? ⟨B3,0,none⟩=some (.int .i64 1):=i39.c rfl;have k29:w9.cell? ⟨B3,2,none⟩=some (.string key):=i39.c rfl;have k39:w9.cell? ⟨B3,3,none⟩=some (.string val):=i39.c rfl;clear hb9 k0' k1' k2' k3' i2' i3' i4' n5';have HKEEP:Hid (∀wk,Frm (fun k=>k=B6∨k=A1.ga∨k=A1.gr) w9 wk→Bl w wk∧IsC wk B4 #[.int .i64 0,.slice none 0 0,.slice none 0 0,.int .i64 0,.int .i64 0,.slice none 0 0,.slice none 0 0] 57∧IsC wk B5 #[.int .i64 0,.int .i64 0,.string {data:=#[]}] 92∧IsC wk B2 XS 57∧IsC wk B3 #[.int .i64 1,.int .i64 tree,.string key,.string val] 63):=fun wk hF=>by
   have h6:=HN6.out;have hga':=lT c04.size hga;have hgr':=lT c04.size hgr;refine⟨hb09.trans (hF.below hb09.size fun k e=>by rcases e with e | e | e<;>omega),i49.frm hF ?_,n59.frm hF ?_,i29.frm hF ?_,i39.frm hF ?_⟩
   ·rintro(e | e | e)
    ·omega
    ·exact i49.type_ne hSp9.v.nds.arr (by decide) e
    ·exact i49.type_ne hSp9.v.rts (by decide) e
   ·rintro(e | e | e)
    ·exact n59.type_ne hSp9.box (by decide) e
    ·exact n59.type_ne hSp9.v.nds.arr (by decide) e
    ·exact n59.type_ne hSp9.v.rts (by decide) e
   ·rintro(e | e | e)
    ·omega
    ·exact i29.type_ne hSp9.v.nds.arr (by decide) e
    ·exact i29.type_ne hSp9.v.rts (by decide) e
   ·rintro(e | e | e)
    ·exact i39.type_ne hSp9.box (by decide) e
    ·exact i39.type_ne hSp9.v.nds.arr (by decide) e
    ·exact i39.type_ne hSp9.v.rts (by decide) e
  have hput:=aDX (key:=key) (val:=val) hW hV hI.r16 w9 B6 A1 hSp9;clear hga hgr;go_wp2_with fail;refine hput.mono ?_;intro e wk hz;have hFk:Frm (fun k=>k=B6∨k=A1.ga∨k=A1.gr) w9 wk:=hz.frm.wide fun _ _ q=>.inr q;obtain⟨hb0k,i4k,n5k,i2k,i3k⟩:=HKEEP.out wk hFk;have k0k:wk.cell? ⟨B3,0,none⟩=some (.int .i64 1):=i3k.c rfl;clear HKEEP hput hFk k09 k29 k39;cases hpu:put f t (hOf f t) key val with
  | none=>
   obtain rfl:=hz.no (by rw[hpu];rfl);have HR3:Hid (r=(f,7,0,.empty)):=by show r=_;rw[HOP.out];unfold lY;rw[hpu]
   clear hz hpu;go_wp2;refine fQ (d1:=112) (d2:=113) (c:=7) i2k hsz hone i4k rfl n5k rfl m24 rfl (fun _ _=>rfl) (fun _ _=>rfl) (fun _ _=>rfl) (fun _ _=>rfl) (by kernel_rfl) (fun _ _ _ _ h=>h) (fun w' j4 j5 jF=>?_);simp only[Act.put,sB,sZ,sS];have HBB:=aA (HBAD.out w' (HB5.out _ _ hb0k jF) 7);clear jF;go_wp2;refine bodyPost_ret (v:=.tuple #[.agg XS,.agg #[.int .i64 7,.int .i64 0,.string .empty]]) (bD j4 j5 hsz rfl rfl rfl) rfl ?_;rw[HR3.out];exact HBB.out
  | some gt=>
   obtain⟨g,th⟩:=gt;obtain⟨rfl,A2,hSp2,hA2⟩:=hz.yes g (by rw[hpu];rfl);obtain⟨H',g1,g2,g3⟩:=aAK hW hrt hpu;have hro:=pO (Inv.cts (hI.after g1 g2 g3)) wk B6 A2 hSp2;have hth:th=fo:=(aEZ hW hpu).trans HFO.out;subst hth;have HRR:Hid (r=if pS g=true then(g,0,if th then 1 else 0,.empty)else(f,7,0,.empty)):=by
    show r=_
    rw[HOP.out];unfold lY;rw[hpu];unfold pS;by_cases q:fI g.cur g.com<2*fJ g.cur.length
    ·rw[if_neg (by simp;omega)];simp only;rw[if_pos q]
    ·rw[if_pos (by simp;omega)];simp only;rw[if_neg q]
   clear hz hpu g1 g2 g3;obtain⟨rm,hrm⟩:=eZ (pS g);rw[hrm]at hro HRR;clear hrm;go_wp2_with fail;refine hro.mono ?_;rintro e wr ⟨rfl,hbr⟩;have i2r:=i2k.of (hbr.block _ i2k.lt);have i4r:=i4k.of (hbr.block _ i4k.lt);have n5r:=n5k.of (hbr.block _ n5k.lt);have hb0r:=hb0k.trans (hbr.mono hb0k.size);have hSpr:=hSp2.below hbr;have htv2:∃a n c,A2.tv=.slice a n c:=by rw[hA2.tv];exact htv'
   have hone2:=dO hSpr.v htv2;have hsz2:=cU A2 g;have j62:=hSpr.box;obtain⟨X2,hX2⟩:=eZ (aL A2 g);rw[hX2]at hone2 hsz2 j62;clear hro hbr i2k i4k n5k i3k k0k;have hbdA:=qV;have hbdE:=aIP;cases rm with
   | false=>
    have HR3:Hid (r=(f,7,0,.empty)):=HRR.out;clear HRR;go_wp2;refine fQ (d1:=112) (d2:=113) (c:=7) i2r hsz hone i4r rfl n5r rfl m24 rfl (fun _ _=>rfl) (fun _ _=>rfl) (fun _ _=>rfl) (fun _ _=>rfl) (by kernel_rfl) (fun _ _ _ _ h=>h) (fun w' j4 j5 jF=>?_);simp only[Act.put,sB,sZ,sS];have HBB:=aA (HBAD.out w' (HB5.out _ _ hb0r jF) 7);clear jF;go_wp2;refine bodyPost_ret (v:=.tuple #[.agg XS,.agg #[.int .i64 7,.int .i64 0,.string .empty]]) (bD j4 j5 hsz rfl rfl rfl) rfl ?_;rw[HR3.out];exact HBB.out
   | true=>
    cases th with
    | true=>
     have HR3:Hid (r=(g,0,1,.empty)):=HRR.out;clear HRR;go_upto_region 21 with fail
     refine wp_region_list ?_;refine wpList_plain rfl (fun K2 hK2=>?_);refine cJ _ rfl B6 j62 rfl hsz2 ?_;refine hK2 _ _ ?_;clear hK2 K2;simp only[Act.put,sB,sZ,sS];refine wpList_plain rfl (fun K2 hK2=>?_);go_simp;refine hK2 _ _ ?_;clear hK2 K2;refine wpList_plain rfl (fun K2 hK2=>?_);refine aK _ _ _ rfl B4 i4r rfl rfl hsz2 (by rw[hsz2];kernel_rfl) hone2 fun wa ja jaF=>?_;refine hK2 _ _ ?_;clear hK2 K2;simp only[Act.put,sB,sZ,sS];refine wpList_plain rfl (fun K2 hK2=>?_);refine aK (vs:=#[.int .i64 0,.int .i64 1,.string .empty]) _ _ _ rfl B5 (n5r.frm jaF n54) rfl rfl rfl (by kernel_rfl) (by simp[Value.oneCell']) fun wb jb jbF=>?_;refine hK2 _ _ ?_;clear hK2 K2;refine wpList_nil ?_;simp only[Act.put,sB,sZ,sS];have jF:Frm (fun k=>k=B4∨k=B5) wr wb:=(jaF.wide fun _ _ q=>.inl q).trans (jbF.wide fun _ _ q=>.inr q);have ja':=ja.frm jbF (Ne.symm n54);have HFIN:=aA (show OpP w r (.returned (.tuple #[.agg X2,.agg #[.int .i64 0,.int .i64 1,.string ByteArray.empty]])) wb by rw[HR3.out,←hX2];exact OpP.good hSpr htv2 i4r n5r jF (HB5.out _ _ hb0r jF) (0,1,ByteArray.empty));clear ja jaF jbF jF;go_wp2;refine bodyPost_ret (v:=.tuple #[.agg X2,.agg #[.int .i64 0,.int .i64 1,.string .empty]]) (bD ja' jb hsz2 rfl rfl rfl) rfl ?_;exact HFIN.out
    | false=>
     have HR3:Hid (r=(g,0,0,.empty)):=HRR.out;clear HRR;go_upto_region 22 with fail
     refine wp_region_list ?_;refine wpList_plain rfl (fun K2 hK2=>?_);refine cJ _ rfl B6 j62 rfl hsz2 ?_;refine hK2 _ _ ?_;clear hK2 K2;simp only[Act.put,sB,sZ,sS];refine wpList_plain rfl (fun K2 hK2=>?_);go_simp;refine hK2 _ _ ?_;clear hK2 K2;refine wpList_plain rfl (fun K2 hK2=>?_);refine aK _ _ _ rfl B4 i4r rfl rfl hsz2 (by rw[hsz2];kernel_rfl) hone2 fun wa ja jaF=>?_;refine hK2 _ _ ?_;clear hK2 K2;simp only[Act.put,sB,sZ,sS];refine wpList_plain rfl (fun K2 hK2=>?_);refine aK (vs:=#[.int .i64 0,.int .i64 0,.string .empty]) _ _ _ rfl B5 (n5r.frm jaF n54) rfl rfl rfl (by kernel_rfl) (by simp[Value.oneCell']) fun wb jb jbF=>?_;refine hK2 _ _ ?_;clear hK2 K2;refine wpList_nil ?_;simp only[Act.put,sB,sZ,sS];have jF:Frm (fun k=>k=B4∨k=B5) wr wb:=(jaF.wide fun _ _ q=>.inl q).trans (jbF.wide fun _ _ q=>.inr q);have ja':=ja.frm jbF (Ne.symm n54);have HFIN:=aA (show OpP w r (.returned (.tuple #[.agg X2,.agg #[.int .i64 0,.int .i64 0,.string ByteArray.empty]])) wb by rw[HR3.out,←hX2];exact OpP.good hSpr htv2 i4r n5r jF (HB5.out _ _ hb0r jF) (0,0,ByteArray.empty));clear ja jaF jbF jF;go_wp2;refine bodyPost_ret (v:=.tuple #[.agg X2,.agg #[.int .i64 0,.int .i64 0,.string .empty]]) (bD ja' jb hsz2 rfl rfl rfl) rfl ?_;exact HFIN.out
theorem aHI{f:fZ}(hI:Inv f)(hV:VE f)(tree:Int)(key val:ByteArray)(hadm:(aX f 2 tree key val).2=0)(w:World)(A:SA)(hS:SpV w A f)(htv:∃a n c,A.tv=.slice a n c):
  Calls Tryz.prog 52 #[.agg (aL A f),.agg #[.int .i64 2,.int .i64 tree,.string key,.string val]] w (OpP w (opM f 2 tree key val)):=by
 have q0:¬inB 2 1 6=false:=by decide
 have HADM:=aA hadm;clear hadm;have hsz:=cU A f;have hone:=dO hS htv;have HBAD:=aA fun(w':World) (hb:Bl w w') (c:Int)=>OpP.bad hS htv hb c;obtain⟨XS,hXS⟩:=eZ (aL A f);rw[hXS]at hsz hone HBAD;rw[hXS];have HXS:=aA hXS;clear hXS;obtain⟨r,Hr⟩:∃r,Hid (opM f 2 tree key val=r):=⟨_,rfl⟩;rw[Hr.out];obtain⟨w1,hw1⟩:=eZ (w.alloc (.cells XS 57));obtain⟨w2,hw2⟩:=eZ (w1.alloc (.cells #[.int .i64 2,.int .i64 tree,.string key,.string val] 63));obtain⟨w3,hw3⟩:=eZ (w2.alloc (.cells #[.int .i64 0,.slice none 0 0,.slice none 0 0,.int .i64 0,.int .i64 0,.slice none 0 0,.slice none 0 0] 57));obtain⟨w4,hw4⟩:=eZ (w3.alloc (.cells #[.int .i64 0,.int .i64 0,.string {data:=#[]}] 92));obtain⟨B2,hB2⟩:=eZ (w.heap.size);obtain⟨B3,hB3⟩:=eZ (w1.heap.size);obtain⟨B4,hB4⟩:=eZ (w2.heap.size);obtain⟨B5,hB5⟩:=eZ (w3.heap.size);have hBx:∀(u:World) (o:Obj) (v:World),u.alloc o=v→Bl u v∧v.heap.size=u.heap.size+1:=fun u o v e=>by rw[←e];exact⟨(bQ _ u).alloc (nR _) _,by simp⟩
 have hNx:∀(u:World) (cs:Array Value) (ty:TypeId) (v:World),u.alloc (.cells cs ty)=v→IsC v u.heap.size cs ty:=fun u cs ty v e=>by rw[←e];exact IsC.new _ _ _
 obtain⟨b1,s1⟩:=hBx _ _ _ hw1;obtain⟨b2,s2⟩:=hBx _ _ _ hw2;obtain⟨b3,s3⟩:=hBx _ _ _ hw3;obtain⟨b4,s4⟩:=hBx _ _ _ hw4;have n2:=hNx _ _ _ _ hw1;have n3:=hNx _ _ _ _ hw2;have n4:=hNx _ _ _ _ hw3;have n5:=hNx _ _ _ _ hw4;rw[hB2]at n2;rw[hB3]at n3;rw[hB4]at n4;rw[hB5]at n5;have c34:Bl w3 w4:=b4;have c24:Bl w2 w4:=b3.trans (c34.mono (by omega));have c14:Bl w1 w4:=b2.trans (c24.mono (by omega));have c04:Bl w w4:=b1.trans (c14.mono (by omega));have i2:IsC w4 B2 XS 57:=n2.of (c14.block _ n2.lt);have i3:=n3.of (c24.block _ n3.lt);have i4:=n4.of (c34.block _ n4.lt);have m24:B2≠B4:=by omega
 have k0:w4.cell? ⟨B3,0,none⟩=some (.int .i64 2):=i3.c rfl;have HD:=aA (aI s1 (aI s2 (aI s3 (aI s4 (aI hB2 (aI hB3 (aI hB4 hB5)))))));have HLO:Hid (w.heap.size≤B4∧w.heap.size≤B5):=(show _∧_ from by omega);have HB5:Hid (∀(wz w':World),Bl w wz→Frm (fun k=>k=B4∨k=B5) wz w'→Bl w w'):=fun wz w' hb hF=>hb.trans (hF.below hb.size fun k e=>by have:=HLO.out;rcases e with e | e<;>omega);clear hBx hNx b1 b2 b3 b4 n2 n3 n4 c34 c24 c14 s1 s2 s3 s4;go_enter Tryz.func52,Tryz.ntmps52;have HQ0:=aA q0;have hcp:=mM w4 A (hS.below c04) (by have:=hI.ic.n8;omega) hI.ic.n512 hI.ne (by have:=hI.r16;omega) htv;unfold stV at hcp;rw[HXS.out]at hcp;have HCP:=aA hcp;clear q0 hcp;go_upto_region 3 with fail
 refine wp_region_list ?_;refine wpList_plain rfl (fun K2 hK2=>?_);refine cJ _ rfl B2 i2 rfl hsz ?_;refine hK2 _ _ ?_;clear hK2 K2;simp only[Act.put,sB,sZ,sS];refine wpList_plain rfl (fun K2 hK2=>?_);go_simp;refine HCP.out.mono ?_;rintro e w5 ⟨A1,rfl,hS1,htv1,hga,hgr,hb5⟩;refine hK2 _ _ ?_;clear hK2 K2 HCP;have htv':∃a n c,A1.tv=.slice a n c:=by rw[htv1];exact htv
 have hone1:=dO hS1 htv';have hsz1:=cU A1 f;obtain⟨X1,hX1⟩:=eZ (aL A1 f);rw[hX1]at hone1 hsz1;rw[hX1];obtain⟨w6,hw6⟩:=eZ (w5.alloc (.cells #[.int .i64 0,.slice none 0 0,.slice none 0 0,.int .i64 0,.int .i64 0,.slice none 0 0,.slice none 0 0] 57));obtain⟨B6,hB6⟩:=eZ (w5.heap.size);have i6:=iNw hw6 hB6;have hb6:=bAl hw6;refine wpList_plain rfl (fun K2 hK2=>?_);go_simp;refine hK2 _ _ ?_;clear hK2 K2;refine wpList_plain rfl (fun K2 hK2=>?_);refine aK _ _ _ rfl B6 i6 rfl rfl hsz1 (by rw[hsz1];kernel_rfl) hone1 fun w7 j6 jF=>?_;have hb57:Bl w5 w7:=hb6.trans (jF.below hb6.size fun k e=>by omega);have hb47:=hb5.trans (hb57.mono hb5.size);have hb07:=c04.trans (hb47.mono c04.size);have i2':=i2.of (hb47.block _ i2.lt);have i3':=i3.of (hb47.block _ i3.lt);have i4':=i4.of (hb47.block _ i4.lt);have n5':=n5.of (hb47.block _ n5.lt);have hSp:Sp w7 B6 A1 f:=⟨by rw[hX1];exact j6,hS1.below hb57⟩;have HN6:Hid (w.heap.size≤B6∧B2<B6∧B4<B6):=(show _∧_∧_ from by have:=c04.size;have:=hb5.size;have:=i2.lt;have:=i4.lt;omega);have k0':w7.cell? ⟨B3,0,none⟩=some (.int .i64 2):=i3'.c rfl;have k1':w7.cell? ⟨B3,1,none⟩=some (.int .i64 tree):=i3'.c rfl;have k2':w7.cell? ⟨B3,2,none⟩=some (.string key):=i3'.c rfl;have k3':w7.cell? ⟨B3,3,none⟩=some (.string val):=i3'.c rfl;refine hK2 _ _ ?_;clear hK2 K2 i2 i3 i4 n5 k0 i6 hw6 hw1 hw2 hw3 hw4 hb6 jF hb57 hb47 hB2 hB3 hB4 hB5 hB6 HD;refine wpList_nil ?_;simp only[Act.put,sB,sZ,sS];have hpl:=lI w7 B6 A1 hSp (by have:=hI.r16;omega) tree;go_wp2_with fail;refine hpl.mono ?_;rintro e w8 ⟨rfl,rfl⟩;clear hpl;cases hat:atT f tree with
 | none=>
  have ha:aX f 2 tree key val=(0,8):=by unfold aX;rw[if_neg HQ0.out,if_neg (by decide),hat]
  have:=HADM.out
  rw[ha]at this;cases this
 | some t=>
  have htl:=(xH hat).1;have hp:plZ f tree=(t:Int):=by unfold plZ;rw[hat]
  have htn:¬((t:Int)<0):=by omega
  have hAM:aX f 2 tree key val=if(((2:Int)=1∨(2:Int)=2∨(2:Int)=6)∧12<key.size)∨((2:Int)=1∧10<val.size)then((0,4):Nat×Int)else(t,0):=by unfold aX;rw[if_neg HQ0.out,if_neg (by decide),hat]
  have hlim:¬((((2:Int)=1∨(2:Int)=2∨(2:Int)=6)∧12<key.size)∨((2:Int)=1∧10<val.size)):=fun q=>by
   rw[if_pos q]at hAM;have:=HADM.out;rw[hAM]at this;cases this
  rw[if_neg hlim]at hAM;have hkI:¬(12:Int) <(key.size:Int):=fun q=>hlim (.inl ⟨.inr (.inl rfl),by omega⟩);rw[hp];obtain⟨hW,hrt,_⟩:=hI.hOf htl;have n54:B5≠B4:=n5'.type_ne i4' (by decide);have hget:=pE hI.ic htl hW.ok key w8 B6 A1 hSp;have HOP:Hid (r=mW f t key):=by
   show r=_
   rw[←Hr.out];unfold opM;rw[hAM];rfl
  clear hAM hlim Hr hat hp HQ0;cases hfd:Fo.find f.nodes (hOf f t) (aB f t) key with
  | none=>
   have HR3:Hid (r=(f,9,0,.empty)):=by show r=_;rw[HOP.out];unfold mW;rw[hfd]
   rw[hfd]at hget;simp only[uE]at hget;clear hfd;go_wp2_with fail;refine hget.mono ?_;rintro e w9 ⟨rfl,hb9⟩;clear hget;have i29:=i2'.of (hb9.block _ i2'.lt);have i39:=i3'.of (hb9.block _ i3'.lt);have i49:=i4'.of (hb9.block _ i4'.lt);have n59:=n5'.of (hb9.block _ n5'.lt);have hb09:=hb07.trans (hb9.mono hb07.size);have hSp9:=hSp.below hb9;have j69:=hSp9.box;rw[hX1]at j69;have k09:w9.cell? ⟨B3,0,none⟩=some (.int .i64 2):=i39.c rfl;have k29:w9.cell? ⟨B3,2,none⟩=some (.string key):=i39.c rfl;have k39:w9.cell? ⟨B3,3,none⟩=some (.string val):=i39.c rfl;clear hb9 k0' k1' k2' k3' i2' i3' i4' n5';go_wp2;refine fQ (d1:=121) (d2:=122) (c:=9) i29 hsz hone i49 rfl n59 rfl m24 rfl (fun _ _=>rfl) (fun _ _=>rfl) (fun _ _=>rfl) (fun _ _=>rfl) (by kernel_rfl) (fun _ _ _ _ h=>h) (fun w' j4 j5 jF=>?_);simp only[Act.put,sB,sZ,sS];have HBB:=aA (HBAD.out w' (HB5.out _ _ hb09 jF) 9);clear jF;go_wp2;refine bodyPost_ret (v:=.tuple #[.agg XS,.agg #[.int .i64 9,.int .i64 0,.string .empty]]) (bD j4 j5 hsz rfl rfl rfl) rfl ?_;rw[HR3.out];exact HBB.out
  | some v=>
   have hm:=kS hW.ok hfd;rw[hfd]at hget;simp only[uE]at hget;go_wp2_with fail;refine hget.mono ?_;rintro e w9 ⟨rfl,hb9⟩;clear hget;have i29:=i2'.of (hb9.block _ i2'.lt);have i39:=i3'.of (hb9.block _ i3'.lt);have i49:=i4'.of (hb9.block _ i4'.lt);have n59:=n5'.of (hb9.block _ n5'.lt);have hb09:=hb07.trans (hb9.mono hb07.size);have hSp9:=hSp.below hb9;have j69:=hSp9.box;rw[hX1]at j69;have k09:w9.cell? ⟨B3,0,none⟩=some (.int .i64 2):=i39.c rfl;have k29:w9.cell? ⟨B3,2,none⟩=some (.string key):=i39.c rfl;have k39:w9.cell? ⟨B3,3,none⟩=some (.string val):=i39.c rfl;clear hb9 k0' k1' k2' k3' i2' i3' i4' n5';have HKEEP:Hid (∀wk,Frm (fun k=>k=B6∨k=A1.ga∨k=A1.gr) w9 wk→Bl w wk∧IsC wk B4 #[.int .i64 0,.slice none 0 0,.slice none 0 0,.int .i64 0,.int .i64 0,.slice none 0 0,.slice none 0 0] 57∧IsC wk B5 #[.int .i64 0,.int .i64 0,.string {data:=#[]}] 92∧IsC wk B2 XS 57∧IsC wk B3 #[.int .i64 2,.int .i64 tree,.string key,.string val] 63):=fun wk hF=>by
    have h6:=HN6.out;have hga':=lT c04.size hga;have hgr':=lT c04.size hgr;refine⟨hb09.trans (hF.below hb09.size fun k e=>by rcases e with e | e | e<;>omega),i49.frm hF ?_,n59.frm hF ?_,i29.frm hF ?_,i39.frm hF ?_⟩
    ·rintro(e | e | e)
     ·omega
     ·exact i49.type_ne hSp9.v.nds.arr (by decide) e
     ·exact i49.type_ne hSp9.v.rts (by decide) e
    ·rintro(e | e | e)
     ·exact n59.type_ne hSp9.box (by decide) e
     ·exact n59.type_ne hSp9.v.nds.arr (by decide) e
     ·exact n59.type_ne hSp9.v.rts (by decide) e
    ·rintro(e | e | e)
     ·omega
     ·exact i29.type_ne hSp9.v.nds.arr (by decide) e
     ·exact i29.type_ne hSp9.v.rts (by decide) e
    ·rintro(e | e | e)
     ·exact i39.type_ne hSp9.box (by decide) e
     ·exact i39.type_ne hSp9.v.nds.arr (by decide) e
     ·exact i39.type_ne hSp9.v.rts (by decide) e
   have hput:=xN hW hV hI.r16 hrt hm w9 B6 A1 hSp9;clear hga hgr;go_wp2_with fail;refine hput.mono ?_;intro e wk hz;have hFk:Frm (fun k=>k=B6∨k=A1.ga∨k=A1.gr) w9 wk:=hz.frm.wide fun _ _ q=>.inr q;obtain⟨hb0k,i4k,n5k,i2k,i3k⟩:=HKEEP.out wk hFk;clear HKEEP hput hFk k09 k29 k39;cases hpu:bW f t (hOf f t) key with
   | none=>
    obtain rfl:=hz.no hpu;have HR3:Hid (r=(f,7,0,.empty)):=by show r=_;rw[HOP.out];unfold mW;rw[hfd];simp only;rw[hpu]
    clear hz hpu hfd;go_wp2;refine fQ (d1:=135) (d2:=136) (c:=7) i2k hsz hone i4k rfl n5k rfl m24 rfl (fun _ _=>rfl) (fun _ _=>rfl) (fun _ _=>rfl) (fun _ _=>rfl) (by kernel_rfl) (fun _ _ _ _ h=>h) (fun w' j4 j5 jF=>?_);simp only[Act.put,sB,sZ,sS];have HBB:=aA (HBAD.out w' (HB5.out _ _ hb0k jF) 7);clear jF;go_wp2;refine bodyPost_ret (v:=.tuple #[.agg XS,.agg #[.int .i64 7,.int .i64 0,.string .empty]]) (bD j4 j5 hsz rfl rfl rfl) rfl ?_;rw[HR3.out];exact HBB.out
   | some g=>
    obtain⟨rfl,A2,hSp2,hA2⟩:=hz.yes g hpu;obtain⟨H',g1,g2,g3⟩:=vW hW hrt hm hpu;have hro:=pO (Inv.cts (hI.after g1 g2 g3)) wk B6 A2 hSp2;have HRR:Hid (r=if pS g=true then(g,0,0,v)else(f,7,0,.empty)):=by
     show r=_
     rw[HOP.out];unfold mW;rw[hfd];simp only;rw[hpu];unfold pS;by_cases q:fI g.cur g.com<2*fJ g.cur.length
     ·rw[if_neg (by simp;omega)];simp only;rw[if_pos q]
     ·rw[if_pos (by simp;omega)];simp only;rw[if_neg q]
    clear hz hpu g1 g2 g3 hfd;obtain⟨rm,hrm⟩:=eZ (pS g);rw[hrm]at hro HRR;clear hrm;go_wp2_with fail;refine hro.mono ?_;rintro e wr ⟨rfl,hbr⟩;have i2r:=i2k.of (hbr.block _ i2k.lt);have i4r:=i4k.of (hbr.block _ i4k.lt);have n5r:=n5k.of (hbr.block _ n5k.lt);have hb0r:=hb0k.trans (hbr.mono hb0k.size);have hSpr:=hSp2.below hbr;have htv2:∃a n c,A2.tv=.slice a n c:=by rw[hA2.tv];exact htv'
    have hone2:=dO hSpr.v htv2;have hsz2:=cU A2 g;have j62:=hSpr.box;obtain⟨X2,hX2⟩:=eZ (aL A2 g);rw[hX2]at hone2 hsz2 j62;clear hro hbr i2k i4k n5k i3k;have hbdA:=qT;cases rm with
    | false=>
     have HR3:Hid (r=(f,7,0,.empty)):=HRR.out;clear HRR;go_wp2;refine fQ (d1:=135) (d2:=136) (c:=7) i2r hsz hone i4r rfl n5r rfl m24 rfl (fun _ _=>rfl) (fun _ _=>rfl) (fun _ _=>rfl) (fun _ _=>rfl) (by kernel_rfl) (fun _ _ _ _ h=>h) (fun w' j4 j5 jF=>?_);simp only[Act.put,sB,sZ,sS];have HBB:=aA (HBAD.out w' (HB5.out _ _ hb0r jF) 7);clear jF;go_wp2;refine bodyPost_ret (v:=.tuple #[.agg XS,.agg #[.int .i64 7,.int .i64 0,.string .empty]]) (bD j4 j5 hsz rfl rfl rfl) rfl ?_;rw[HR3.out];exact HBB.out
    | true=>
     have HR3:Hid (r=(g,0,0,v)):=HRR.out;clear HRR;go_upto_region 28 with fail
     refine wp_region_list ?_;refine wpList_plain rfl (fun K2 hK2=>?_);refine cJ _ rfl B6 j62 rfl hsz2 ?_;refine hK2 _ _ ?_;clear hK2 K2;simp only[Act.put,sB,sZ,sS];refine wpList_plain rfl (fun K2 hK2=>?_);go_simp;refine hK2 _ _ ?_;clear hK2 K2;refine wpList_plain rfl (fun K2 hK2=>?_);go_simp;refine hK2 _ _ ?_;clear hK2 K2;refine wpList_plain rfl (fun K2 hK2=>?_);refine aK _ _ _ rfl B4 i4r rfl rfl hsz2 (by rw[hsz2];kernel_rfl) hone2 fun wa ja jaF=>?_;refine hK2 _ _ ?_;clear hK2 K2;simp only[Act.put,sB,sZ,sS];refine wpList_plain rfl (fun K2 hK2=>?_);refine aK (vs:=#[.int .i64 0,.int .i64 0,.string v]) _ _ _ rfl B5 (n5r.frm jaF n54) rfl rfl rfl (by kernel_rfl) (by simp[Value.oneCell']) fun wb jb jbF=>?_;refine hK2 _ _ ?_;clear hK2 K2;refine wpList_nil ?_;simp only[Act.put,sB,sZ,sS];have jF:Frm (fun k=>k=B4∨k=B5) wr wb:=(jaF.wide fun _ _ q=>.inl q).trans (jbF.wide fun _ _ q=>.inr q);have ja':=ja.frm jbF (Ne.symm n54);have HFIN:=aA (show OpP w r (.returned (.tuple #[.agg X2,.agg #[.int .i64 0,.int .i64 0,.string v]])) wb by rw[HR3.out,←hX2];exact OpP.good hSpr htv2 i4r n5r jF (HB5.out _ _ hb0r jF) (0,0,v));clear ja jaF jbF jF;go_wp2;refine bodyPost_ret (v:=.tuple #[.agg X2,.agg #[.int .i64 0,.int .i64 0,.string v]]) (bD ja' jb hsz2 rfl rfl rfl) rfl ?_;exact HFIN.out
theorem aHA{f:fZ}(hI:Inv f)(hV:VE f)(kind tree:Int)(key val:ByteArray)(h5:kind≠5)(w:World)(A:SA)(hS:SpV w A f)(htv:∃a n c,A.tv=.slice a n c):
  Calls Tryz.prog 52 #[.agg (aL A f),.agg #[.int .i64 kind,.int .i64 tree,.string key,.string val]] w (OpP w (opM f kind tree key val)):=by
 by_cases h0:(aX f kind tree key val).2=0
 ·by_cases e1:kind=1
  ·subst e1;exact aGU hI hV tree key val h0 w A hS htv
  ·by_cases e2:kind=2
   ·subst e2;exact aHI hI hV tree key val h0 w A hS htv
   ·exact vO hI kind tree key val h5 (fun q=>absurd q (by omega)) w A hS htv
 ·exact vO hI kind tree key val h5 (fun _=>h0) w A hS htv
