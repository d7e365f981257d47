import Derived.Test.YtmpagpeenjddgaaGreatSq21
set_option maxHeartbeats 9999999
set_option maxRecDepth 99999
set_option linter.all false
namespace Go.Proofs.YtmpagpeenjddgaaGreat
open Go.RowKit Fo
variable{y4 y5:Array Value}{B4 B5:Nat}{w w':World}{f:fZ}
theorem SpV.ev{A:SA}(h:SpV w A f)(a:IsC w B4 y4 58)(b:IsC w B5 y5 31)(hF:Frm (fun k=>k=B4\/k=B5) w w'):SpV w' A f:=
 ⟨h.aq.ae hF (fun g cs k e=>e.elim (k.ab a (by decide)) (k.ab b (by decide))) (fun e=>e.elim (h.aq.arr.ab a (by decide)) (h.aq.arr.ab b (by decide))),h.ln,h.bp.ae hF (fun e=>e.elim (h.bp.ab a (by decide)) (h.bp.ab b (by decide))),h.rs,h.m.ae hF (fun g cs k e=>e.elim (k.ab a (by decide)) (k.ab b (by decide)))⟩
theorem OpP.good{w9:World}{A2:SA}{g:fZ}{B6:Nat}(e:Sp w9 B6 A2 g)(h:∃a n c,A2.tv=.slice a n c)(b:IsC w9 B4 y4 58)(d:IsC w9 B5 y5 31)(hF:Frm (fun k=>k=B4\/k=B5) w9 w')(f:Bl w w')(a:An):OpP w (g,a) (.returned (.tuple #[.agg (aL A2 g),bZ a])) w':=
 ⟨⟨A2,rfl,e.v.ev b d hF,h⟩,f⟩
theorem buildA01(W:World)(c v:Int):(Instr.build 31 #[(0,iV c),(1,iV v)]).run Tryz.prog W=.ok (.agg #[iV c,iV v,.string .empty]) W:=by kernel_rfl
theorem vQ(R:Inv f)(kind tree:Int)(key val:ByteArray)(h5:kind≠5)(Uv:kind=1\/kind=2->(aV f kind tree key val).2≠0)(w:World)(A:SA)(hS:SpV w A f)(kh:∃a n c,A.tv=.slice a n c):
  Calls Tryz.prog 33 #[.agg (aL A f),.agg #[iV kind,iV tree,.string key,.string val]] w (OpP w (opM f kind tree key val)):=by
 by_cases q0:inB kind 1 6=false
 ·exact aFW kind tree key val q0 w A hS kh
 have Wp:=aA Uv;clear Uv;have N:=dD A f;have fh:=dT hS kh;have jm:=aA fun(w':World) (hb:Bl w w') (c:Int)=>OpP.bad hS kh hb c;obtain⟨XS,xj⟩:=eZ (aL A f);rw[xj]at N fh jm;rw[xj];have L3:=aA xj;clear xj;obtain⟨r,Hr⟩:∃r,Hid (opM f kind tree key val=r):=⟨_,rfl⟩;rw[Hr.out];obtain⟨w1,bx⟩:=eZ (w.alloc (.cells XS 58));obtain⟨w2,de⟩:=eZ (w1.alloc (.cells #[iV kind,iV tree,.string key,.string val] 33));obtain⟨w3,di⟩:=eZ (w2.alloc (.cells #[iV 0,.slice none 0 0,.slice none 0 0,iV 0,iV 0,.slice none 0 0,.slice none 0 0] 58));obtain⟨w4,ci⟩:=eZ (w3.alloc (.cells #[iV 0,iV 0,.string {data:=#[]}] 31));obtain⟨B2,c9⟩:=eZ (w.heap.size);obtain⟨B3,fv⟩:=eZ (w1.heap.size);obtain⟨B4,du⟩:=eZ (w2.heap.size);obtain⟨B5,su⟩:=eZ (w3.heap.size);have oz:∀(u:World) (o:Obj) (v:World),u.alloc o=v->Bl u v/\v.heap.size=u.heap.size+1:=fun u o v e=>by rw[<-e];exact⟨(bQ _ u).alloc (nR _) _,by simp⟩
 have o8:∀(u:World) (cs:Array Value) (ty:TypeId) (v:World),u.alloc (.cells cs ty)=v->IsC v u.heap.size cs ty:=fun u cs ty v e=>by rw[<-e];exact IsC.new _ _ _
 obtain⟨b1,s1⟩:=oz _ _ _ bx;obtain⟨b2,s2⟩:=oz _ _ _ de;obtain⟨b3,s3⟩:=oz _ _ _ di;obtain⟨b4,s4⟩:=oz _ _ _ ci;have n2:=o8 _ _ _ _ bx;have n3:=o8 _ _ _ _ de;have n4:=o8 _ _ _ _ di;have n5:=o8 _ _ _ _ ci;rw[c9]at n2;rw[fv]at n3;rw[du]at n4;rw[su]at n5;have c34:Bl w3 w4:=b4;have c24:Bl w2 w4:=b3.trans (c34.mono (by omega));have c14:Bl w1 w4:=b2.trans (c24.mono (by omega));have Q:Bl w w4:=b1.trans (c14.mono (by omega));have i2:IsC w4 B2 XS 58:=n2.of (c14.block _ n2.lt);have i3:=n3.of (c24.block _ n3.lt);have i4:=n4.of (c34.block _ n4.lt);have T:B2≠B4:=by omega
 have k0:w4.cell? (aD B3 0)=some (iV kind):=i3.c rfl;have HD:=aA (aI s1 (aI s2 (aI s3 (aI s4 (aI c9 (aI fv (aI du su)))))));have Ak:Hid (w.heap.size<=B4/\w.heap.size<=B5):=(show _/\_ from by omega);have rz:Hid (∀(wz w':World),Bl w wz->Frm (fun k=>k=B4\/k=B5) wz w'->Bl w w'):=fun wz w' hb hF=>hb.trans (hF.below hb.size fun k e=>by have:=Ak.out;rcases e with e | e<;>omega);have Ap:inB kind 1 6=false->aV f kind tree key val=(0,5):=fun q=>by unfold aV;rw[if_pos q]
 clear oz o8 b1 b2 b3 b4 n2 n3 n4 c34 c24 c14 s1 s2 s3 s4;go_enter Tryz.func33,Tryz.ntmps33;have q2:1<=kind/\kind<=6:=by unfold inB at q0;simpa using q0
 obtain⟨q2,q3⟩:=q2;have q4:¬kind<1:=by omega
 have q5:¬6<kind:=by omega
 have EO:=aA q0;have qy:=mX w4 A (hS.below Q) (by have:=R.ic.n8;omega) R.ic.al R.ne (by have:=R.br;omega) kh;unfold stV at qy;rw[L3.out]at qy;have Dz:=aA qy;clear Ap q0 qy;go_upto_region 3 with fail
 refine wp_region_list ?_;refine wpList_plain rfl (fun K2 g=>?_);refine cP _ rfl B2 i2 rfl N ?_;refine g _ _ ?_;clear g K2;simp only[Act.put,sB,sZ,sS];refine wpList_plain rfl (fun K2 g=>?_);go_simp;refine Dz.out.mono ?_;rintro e w5 ⟨A1,rfl,bw,Fc,yn,bh,gi⟩;refine g _ _ ?_;clear g K2 Dz;have uy:∃a n c,A1.tv=.slice a n c:=by rw[Fc];exact kh
 have ot:=dT bw uy;have H:=dD A1 f;obtain⟨X1,dh⟩:=eZ (aL A1 f);rw[dh]at ot H;rw[dh];obtain⟨w6,so⟩:=eZ (w5.alloc (.cells #[iV 0,.slice none 0 0,.slice none 0 0,iV 0,iV 0,.slice none 0 0,.slice none 0 0] 58));obtain⟨F,sc⟩:=eZ (w5.heap.size);have i6:=iNw so sc;have nk:=bAl so;refine wpList_plain rfl (fun K2 g=>?_);go_simp;refine g _ _ ?_;clear g K2;refine wpList_plain rfl (fun K2 g=>?_);refine aM _ _ _ rfl F i6 rfl rfl H (by rw[H];kernel_rfl) ot fun w7 j6 x=>?_;have wg:Bl w5 w7:=nk.trans (x.below nk.size fun k e=>by omega);have li:=gi.trans (wg.mono gi.size);have S:=Q.trans (li.mono Q.size);have l:=i2.of (li.block _ i2.lt);have m:=i3.of (li.block _ i3.lt);have j:=i4.of (li.block _ i4.lt);have i:=n5.of (li.block _ n5.lt);have D:Sp w7 F A1 f:=⟨by rw[dh];exact j6,bw.below wg⟩;have Mk:Hid (w.heap.size<=F/\B2<F/\B4<F):=(show _/\_/\_ from by have:=Q.size;have:=gi.size;have:=i2.lt;have:=i4.lt;omega);have J:w7.cell? (aD B3 0)=some (iV kind):=m.c rfl;have K:w7.cell? (aD B3 1)=some (iV tree):=m.c rfl;have L:w7.cell? (aD B3 2)=some (.string key):=m.c rfl;have M:w7.cell? (aD B3 3)=some (.string val):=m.c rfl;refine g _ _ ?_;clear g K2 i2 i3 i4 n5 k0 i6 so bx de di ci nk x wg li c9 fv du su sc HD;refine wpList_nil ?_;simp only[Act.put,sB,sZ,sS];have tj:=lG w7 F A1 D (by have:=R.br;omega) tree;go_wp2_with fail;refine tj.mono ?_;rintro e w8 ⟨rfl,rfl⟩;clear tj;cases kg:atT f tree with
 | none=>
  have HA:Hid (r=(f,8,0,.empty)):=by
   show r=_
   rw[<-Hr.out];have ha:aV f kind tree key val=(0,8):=by unfold aV;rw[if_neg EO.out,if_neg h5,kg]
   unfold opM;rw[ha];rfl
  have hp:plZ f tree=-1:=by unfold plZ;rw[kg]
  rw[hp];clear kg hp;go_wp2;refine gB (d1:=32) (d2:=33) (c:=8) l N fh j rfl i rfl T rfl (fun _ _=>rfl) (fun _ _=>rfl) (fun _ _=>rfl) (fun _ _=>rfl) (by kernel_rfl) (fun _ _ _ _ h=>h) (fun w' X Y x=>?_);clear l m j i J K L M;simp only[Act.put,sB,sZ,sS];go_wp2;refine bodyPost_ret (v:=.tuple #[.agg XS,.agg #[iV 8,iV 0,.string .empty]]) (bH X Y N rfl rfl rfl) rfl ?_;rw[HA.out];exact jm.out w' (rz.out _ _ S x) 8
 | some t=>
  have fu:=(mP kg).1;have hp:plZ f tree=(t:Int):=by unfold plZ;rw[kg]
  have EI:¬((t:Int)<0):=by omega
  have AL:aV f kind tree key val=if((kind=1\/kind=2\/kind=6)/\12<key.size)\/(kind=1/\10<val.size)then((0,4):Nat×Int)else(t,0):=by unfold aV;rw[if_neg EO.out,if_neg h5,kg]
  rw[hp];clear kg hp EO;by_cases mh:((kind=1\/kind=2\/kind=6)/\12<key.size)\/(kind=1/\10<val.size)
  ·have HA:Hid (r=(f,4,0,.empty)):=by
    show r=_
    rw[<-Hr.out];unfold opM;rw[AL,if_pos mh];rfl
   clear AL Hr;by_cases oo:12<key.size
   ·have MK:(12:Int) <(key.size:Int):=by omega
    have mz:kind=1\/kind=2\/kind=6:=by rcases mh with⟨e,_⟩ | ⟨e,_⟩<;>simp[e]
    clear mh;rcases mz with rfl | rfl | rfl
    ·go_wp2
     refine gB (d1:=65) (d2:=66) (c:=4) l N fh j rfl i rfl T rfl (fun _ _=>rfl) (fun _ _=>rfl) (fun _ _=>rfl) (fun _ _=>rfl) (by kernel_rfl) (fun _ _ _ _ h=>h) (fun w' X Y x=>?_);clear l m j i J K L M;simp only[Act.put,sB,sZ,sS];go_wp2;refine bodyPost_ret (v:=.tuple #[.agg XS,.agg #[iV 4,iV 0,.string .empty]]) (bH X Y N rfl rfl rfl) rfl ?_;rw[HA.out];exact jm.out w' (rz.out _ _ S x) 4
    ·go_wp2
     refine gB (d1:=65) (d2:=66) (c:=4) l N fh j rfl i rfl T rfl (fun _ _=>rfl) (fun _ _=>rfl) (fun _ _=>rfl) (fun _ _=>rfl) (by kernel_rfl) (fun _ _ _ _ h=>h) (fun w' X Y x=>?_);clear l m j i J K L M;simp only[Act.put,sB,sZ,sS];go_wp2;refine bodyPost_ret (v:=.tuple #[.agg XS,.agg #[iV 4,iV 0,.string .empty]]) (bH X Y N rfl rfl rfl) rfl ?_;rw[HA.out];exact jm.out w' (rz.out _ _ S x) 4
    ·go_wp2
     refine gB (d1:=65) (d2:=66) (c:=4) l N fh j rfl i rfl T rfl (fun _ _=>rfl) (fun _ _=>rfl) (fun _ _=>rfl) (fun _ _=>rfl) (by kernel_rfl) (fun _ _ _ _ h=>h) (fun w' X Y x=>?_);clear l m j i J K L M;simp only[Act.put,sB,sZ,sS];go_wp2;refine bodyPost_ret (v:=.tuple #[.agg XS,.agg #[iV 4,iV 0,.string .empty]]) (bH X Y N rfl rfl rfl) rfl ?_;rw[HA.out];exact jm.out w' (rz.out _ _ S x) 4
   ·have MK:¬(12:Int) <(key.size:Int):=by omega
    have hv:kind=1/\10<val.size:=by rcases mh with⟨_,e⟩ | e;exact absurd e oo;exact e
    obtain⟨rfl,hv⟩:=hv;have Z6:(10:Int) <(val.size:Int):=by omega
    clear mh;go_wp2;refine gB (d1:=65) (d2:=66) (c:=4) l N fh j rfl i rfl T rfl (fun _ _=>rfl) (fun _ _=>rfl) (fun _ _=>rfl) (fun _ _=>rfl) (by kernel_rfl) (fun _ _ _ _ h=>h) (fun w' X Y x=>?_);clear l m j i J K L M;simp only[Act.put,sB,sZ,sS];go_wp2;refine bodyPost_ret (v:=.tuple #[.agg XS,.agg #[iV 4,iV 0,.string .empty]]) (bH X Y N rfl rfl rfl) rfl ?_;rw[HA.out];exact jm.out w' (rz.out _ _ S x) 4
  ·have CC:aV f kind tree key val=(t,0):=by rw[AL,if_neg mh]
   have B:B5≠B4:=i.ab j (by decide);have IT:=buildA01;have YY:=qZ;obtain⟨hW,ei,_⟩:=R.hOf fu;have re:Hid (∀y,Frm (fun k=>k=F\/k=A1.ga\/k=A1.gr) w8 y->Bl w y/\IsC y B4 #[iV 0,.slice none 0 0,.slice none 0 0,iV 0,iV 0,.slice none 0 0,.slice none 0 0] 58/\IsC y B5 #[iV 0,iV 0,.string {data:=#[]}] 31/\IsC y B2 XS 58/\IsC y B3 #[iV kind,iV tree,.string key,.string val] 33):=fun y hF=>by
    have h6:=Mk.out;have OA:=lT Q.size yn;have FG:=lT Q.size bh;refine⟨S.trans (hF.below S.size fun k e=>by rcases e with e | e | e<;>omega),j.ae hF ?_,i.ae hF ?_,l.ae hF ?_,m.ae hF ?_⟩
    ·rintro(e | e | e)
     ·omega
     ·exact j.ab D.v.aq.arr (by decide) e
     ·exact j.ab D.v.bp (by decide) e
    ·rintro(e | e | e)
     ·exact i.ab D.box (by decide) e
     ·exact i.ab D.v.aq.arr (by decide) e
     ·exact i.ab D.v.bp (by decide) e
    ·rintro(e | e | e)
     ·omega
     ·exact l.ab D.v.aq.arr (by decide) e
     ·exact l.ab D.v.bp (by decide) e
    ·rintro(e | e | e)
     ·exact m.ab D.box (by decide) e
     ·exact m.ab D.v.aq.arr (by decide) e
     ·exact m.ab D.v.bp (by decide) e
   by_cases e3:kind=3
   ·subst e3
    have ki:Hid (r=kP f t):=by
     show r=_
     rw[<-Hr.out];unfold opM;rw[CC];rfl
    clear AL CC mh Hr yn bh;by_cases W:16<=f.r.length\/65535<=f.next
    ·have lp:=aCC (t:=t) W w8 F A1 D
     have U:Hid (r=(f,4,0,.empty)):=by
      show r=_
      rw[ki.out];unfold kP;rw[if_pos W]
     clear W;go_wp2_with fail;refine lp.mono ?_;rintro e y ⟨rfl,rfl⟩;clear lp;go_upto_region 12 with fail
     refine wp_region_list ?_;refine wpList_plain rfl (fun K2 g=>?_);refine cP _ rfl F j6 rfl H ?_;refine g _ _ ?_;clear g K2;simp only[Act.put,sB,sZ,sS];refine wpList_plain rfl (fun K2 g=>?_);go_simp;refine g _ _ ?_;clear g K2;refine wpList_plain rfl (fun K2 g=>?_);go_simp;refine g _ _ ?_;clear g K2;refine wpList_plain rfl (fun K2 g=>?_);go_simp;refine g _ _ ?_;clear g K2;refine wpList_plain rfl (fun K2 g=>?_);refine aM _ _ _ rfl B4 j rfl rfl H (by rw[H];kernel_rfl) ot fun wa O p=>?_;refine g _ _ ?_;clear g K2;simp only[Act.put,sB,sZ,sS];refine wpList_plain rfl (fun K2 g=>?_);refine aM (vs:=#[iV 4,iV 0,.string .empty]) _ _ _ rfl B5 (i.ae p B) rfl rfl rfl (by kernel_rfl) (by simp[Value.oneCell']) fun P jb s=>?_;refine g _ _ ?_;clear g K2;refine wpList_nil ?_;simp only[Act.put,sB,sZ,sS];have x:Frm (fun k=>k=B4\/k=B5) y P:=(p.wide fun _ _ q=>.inl q).trans (s.wide fun _ _ q=>.inr q);have E:=O.ae s (Ne.symm B);have qk:=aA (show OpP w r (.returned (.tuple #[.agg X1,.agg #[iV 4,iV 0,.string ByteArray.empty]])) P by rw[U.out,<-dh];exact OpP.good D uy j i x (rz.out _ _ S x) (4,0,ByteArray.empty));clear O p s x;go_wp2;refine bodyPost_ret (v:=.tuple #[.agg X1,.agg #[iV 4,iV 0,.string .empty]]) (bH E jb H rfl rfl rfl) rfl ?_;exact qk.out
    ·have gd:=zO R.ic fu (by omega) ⟨by have:=R.nx;omega,by omega⟩ w8 F A1 D
     have U:Hid (r=(cS f t,0,f.next,.empty)):=by
      show r=_
      rw[ki.out];unfold kP;rw[if_neg W]
     clear W;go_wp2_with fail;refine gd.mono ?_;rintro e y ⟨rfl,⟨⟨A2,sy,BV⟩,yl⟩⟩;obtain⟨qr,z,C,_⟩:=re.out y yl;have uz:∃a n c,A2.tv=.slice a n c:=by rw[BV];exact uy
     have mu:=dT sy.v uz;have V:=dD A2 (cS f t);have Z:=sy.box;obtain⟨X2,gx⟩:=eZ (aL A2 (cS f t));rw[gx]at mu V Z;clear gd yl;go_upto_region 12 with fail
     refine wp_region_list ?_;refine wpList_plain rfl (fun K2 g=>?_);refine cP _ rfl F Z rfl V ?_;refine g _ _ ?_;clear g K2;simp only[Act.put,sB,sZ,sS];refine wpList_plain rfl (fun K2 g=>?_);go_simp;refine g _ _ ?_;clear g K2;refine wpList_plain rfl (fun K2 g=>?_);go_simp;refine g _ _ ?_;clear g K2;refine wpList_plain rfl (fun K2 g=>?_);go_simp;refine g _ _ ?_;clear g K2;refine wpList_plain rfl (fun K2 g=>?_);refine aM _ _ _ rfl B4 z rfl rfl V (by rw[V];kernel_rfl) mu fun wa O p=>?_;refine g _ _ ?_;clear g K2;simp only[Act.put,sB,sZ,sS];refine wpList_plain rfl (fun K2 g=>?_);refine aM (vs:=#[iV 0,iV f.next,.string .empty]) _ _ _ rfl B5 (C.ae p B) rfl rfl rfl (by kernel_rfl) (by simp[Value.oneCell']) fun P jb s=>?_;refine g _ _ ?_;clear g K2;refine wpList_nil ?_;simp only[Act.put,sB,sZ,sS];have x:Frm (fun k=>k=B4\/k=B5) y P:=(p.wide fun _ _ q=>.inl q).trans (s.wide fun _ _ q=>.inr q);have E:=O.ae s (Ne.symm B);have qk:=aA (show OpP w r (.returned (.tuple #[.agg X2,.agg #[iV 0,iV f.next,.string ByteArray.empty]])) P by rw[U.out,<-gx];exact OpP.good sy uz z C x (rz.out _ _ qr x) (0,f.next,ByteArray.empty));clear O p s x;go_wp2;refine bodyPost_ret (v:=.tuple #[.agg X2,.agg #[iV 0,iV f.next,.string .empty]]) (bH E jb V rfl rfl rfl) rfl ?_;exact qk.out
   by_cases e4:kind=4
   ·subst e4
    have ki:Hid (r=mG f t):=by
     show r=_
     rw[<-Hr.out];unfold opM;rw[CC];rfl
    clear AL CC mh Hr yn bh;by_cases W:f.r.length=1
    ·have lp:=aFV (t:=t) W w8 F A1 D
     have U:Hid (r=(f,18,0,.empty)):=by
      show r=_
      rw[ki.out];unfold mG;rw[if_pos W]
     clear W;go_wp2_with fail;refine lp.mono ?_;rintro e y ⟨rfl,rfl⟩;clear lp;go_upto_region 15 with fail
     refine wp_region_list ?_;refine wpList_plain rfl (fun K2 g=>?_);refine cP _ rfl F j6 rfl H ?_;refine g _ _ ?_;clear g K2;simp only[Act.put,sB,sZ,sS];refine wpList_plain rfl (fun K2 g=>?_);go_simp;refine g _ _ ?_;clear g K2;refine wpList_plain rfl (fun K2 g=>?_);go_simp;refine g _ _ ?_;clear g K2;refine wpList_plain rfl (fun K2 g=>?_);go_simp;refine g _ _ ?_;clear g K2;refine wpList_plain rfl (fun K2 g=>?_);refine aM _ _ _ rfl B4 j rfl rfl H (by rw[H];kernel_rfl) ot fun wa O p=>?_;refine g _ _ ?_;clear g K2;simp only[Act.put,sB,sZ,sS];refine wpList_plain rfl (fun K2 g=>?_);refine aM (vs:=#[iV 18,iV 0,.string .empty]) _ _ _ rfl B5 (i.ae p B) rfl rfl rfl (by kernel_rfl) (by simp[Value.oneCell']) fun P jb s=>?_;refine g _ _ ?_;clear g K2;refine wpList_nil ?_;simp only[Act.put,sB,sZ,sS];have x:Frm (fun k=>k=B4\/k=B5) y P:=(p.wide fun _ _ q=>.inl q).trans (s.wide fun _ _ q=>.inr q);have E:=O.ae s (Ne.symm B);have qk:=aA (show OpP w r (.returned (.tuple #[.agg X1,.agg #[iV 18,iV 0,.string ByteArray.empty]])) P by rw[U.out,<-dh];exact OpP.good D uy j i x (rz.out _ _ S x) (18,0,ByteArray.empty));clear O p s x;go_wp2;refine bodyPost_ret (v:=.tuple #[.agg X1,.agg #[iV 18,iV 0,.string .empty]]) (bH E jb H rfl rfl rfl) rfl ?_;exact qk.out
    ·obtain⟨lw,_,yf,DF,LA,Ie,V4,V5,_,V6⟩:=nT R fu (by have:=R.ne;omega) hW.ok
     have U:Hid (r=((drop f t (hOf f t)).1,0,(drop f t (hOf f t)).2,.empty)):=by
      show r=_
      rw[ki.out];unfold mG;rw[if_neg W]
     have gd:=aCD (Inv.el R) (Inv.el lw) fu (by have:=R.ne;omega) LA (fun b d hd=>by rcases V6 b with e | e;rw[<-e];exact hd;rw[e]at hd;cases hd) DF Ie V4 V5 w8 F A1 D;rw[<-yf]at gd;obtain⟨dn,Vz⟩:=eZ ((drop f t (hOf f t)).2);obtain⟨dg,DD⟩:=eZ ((drop f t (hOf f t)).1);rw[Vz,DD]at gd U;clear W lw yf DF LA Ie V4 V5 V6 Vz DD;go_wp2_with fail;refine gd.mono ?_;rintro e y ⟨rfl,⟨⟨A2,sy,BV⟩,yl⟩⟩;obtain⟨qr,z,C,_⟩:=re.out y yl;have uz:∃a n c,A2.tv=.slice a n c:=by rw[BV];exact uy
     have mu:=dT sy.v uz;have V:=dD A2 dg;have Z:=sy.box;obtain⟨X2,gx⟩:=eZ (aL A2 dg);rw[gx]at mu V Z;clear gd yl;go_upto_region 15 with fail
     refine wp_region_list ?_;refine wpList_plain rfl (fun K2 g=>?_);refine cP _ rfl F Z rfl V ?_;refine g _ _ ?_;clear g K2;simp only[Act.put,sB,sZ,sS];refine wpList_plain rfl (fun K2 g=>?_);go_simp;refine g _ _ ?_;clear g K2;refine wpList_plain rfl (fun K2 g=>?_);go_simp;refine g _ _ ?_;clear g K2;refine wpList_plain rfl (fun K2 g=>?_);go_simp;refine g _ _ ?_;clear g K2;refine wpList_plain rfl (fun K2 g=>?_);refine aM _ _ _ rfl B4 z rfl rfl V (by rw[V];kernel_rfl) mu fun wa O p=>?_;refine g _ _ ?_;clear g K2;simp only[Act.put,sB,sZ,sS];refine wpList_plain rfl (fun K2 g=>?_);refine aM (vs:=#[iV 0,iV dn,.string .empty]) _ _ _ rfl B5 (C.ae p B) rfl rfl rfl (by kernel_rfl) (by simp[Value.oneCell']) fun P jb s=>?_;refine g _ _ ?_;clear g K2;refine wpList_nil ?_;simp only[Act.put,sB,sZ,sS];have x:Frm (fun k=>k=B4\/k=B5) y P:=(p.wide fun _ _ q=>.inl q).trans (s.wide fun _ _ q=>.inr q);have E:=O.ae s (Ne.symm B);have qk:=aA (show OpP w r (.returned (.tuple #[.agg X2,.agg #[iV 0,iV dn,.string ByteArray.empty]])) P by rw[U.out,<-gx];exact OpP.good sy uz z C x (rz.out _ _ qr x) (0,dn,ByteArray.empty));clear O p s x;go_wp2;refine bodyPost_ret (v:=.tuple #[.agg X2,.agg #[iV 0,iV dn,.string .empty]]) (bH E jb V rfl rfl rfl) rfl ?_;exact qk.out
   have cq:=pN R.ic fu hW.ok key w8 F A1 D;have MK:¬(12:Int) <(key.size:Int):=fun q=>mh (.inl ⟨by omega,by omega⟩);by_cases e6:kind=6
   ·subst e6
    have ki:Hid (r=mH f t key):=by
     show r=_
     rw[<-Hr.out];unfold opM;rw[CC];rfl
    clear AL CC mh Hr yn bh re;cases ms:Fo.find f.n (hOf f t) (aB f t) key with
    | none=>
     have U:Hid (r=(f,9,0,.empty)):=by show r=_;rw[ki.out];unfold mH;rw[ms]
     rw[ms]at cq;simp only[uR]at cq;clear ms;go_wp2_with fail;refine cq.mono ?_;rintro e y ⟨rfl,G⟩;clear cq;have i29:=l.of (G.block _ l.lt);have I:=m.of (G.block _ m.lt);have z:=j.of (G.block _ j.lt);have C:=i.of (G.block _ i.lt);have qr:=S.trans (G.mono S.size);have er:=D.below G;have j69:=er.box;rw[dh]at j69;have k09:y.cell? (aD B3 0)=some (iV 6):=I.c rfl;have k29:y.cell? (aD B3 2)=some (.string key):=I.c rfl;have k39:y.cell? (aD B3 3)=some (.string val):=I.c rfl;clear G J K L M l m j i;go_wp2;refine gB (d1:=121) (d2:=122) (c:=9) i29 N fh z rfl C rfl T rfl (fun _ _=>rfl) (fun _ _=>rfl) (fun _ _=>rfl) (fun _ _=>rfl) (by kernel_rfl) (fun _ _ _ _ h=>h) (fun w' X Y x=>?_);simp only[Act.put,sB,sZ,sS];have BZ:=aA (jm.out w' (rz.out _ _ qr x) 9);clear x;go_wp2;refine bodyPost_ret (v:=.tuple #[.agg XS,.agg #[iV 9,iV 0,.string .empty]]) (bH X Y N rfl rfl rfl) rfl ?_;rw[U.out];exact BZ.out
    | some v=>
     have U:Hid (r=(f,0,0,v)):=by show r=_;rw[ki.out];unfold mH;rw[ms]
     rw[ms]at cq;simp only[uR]at cq;clear ms;go_wp2_with fail;refine cq.mono ?_;rintro e y ⟨rfl,G⟩;clear cq;have i29:=l.of (G.block _ l.lt);have I:=m.of (G.block _ m.lt);have z:=j.of (G.block _ j.lt);have C:=i.of (G.block _ i.lt);have qr:=S.trans (G.mono S.size);have er:=D.below G;have j69:=er.box;rw[dh]at j69;have k09:y.cell? (aD B3 0)=some (iV 6):=I.c rfl;have k29:y.cell? (aD B3 2)=some (.string key):=I.c rfl;have k39:y.cell? (aD B3 3)=some (.string val):=I.c rfl;clear G J K L M l m j i;go_upto_region 28 with fail
     refine wp_region_list ?_;refine wpList_plain rfl (fun K2 g=>?_);refine cP _ rfl F j69 rfl H ?_;refine g _ _ ?_;clear g K2;simp only[Act.put,sB,sZ,sS];refine wpList_plain rfl (fun K2 g=>?_);go_simp;refine g _ _ ?_;clear g K2;refine wpList_plain rfl (fun K2 g=>?_);go_simp;refine g _ _ ?_;clear g K2;refine wpList_plain rfl (fun K2 g=>?_);refine aM _ _ _ rfl B4 z rfl rfl H (by rw[H];kernel_rfl) ot fun wa O p=>?_;refine g _ _ ?_;clear g K2;simp only[Act.put,sB,sZ,sS];refine wpList_plain rfl (fun K2 g=>?_);refine aM (vs:=#[iV 0,iV 0,.string v]) _ _ _ rfl B5 (C.ae p B) rfl rfl rfl (by kernel_rfl) (by simp[Value.oneCell']) fun P jb s=>?_;refine g _ _ ?_;clear g K2;refine wpList_nil ?_;simp only[Act.put,sB,sZ,sS];have x:Frm (fun k=>k=B4\/k=B5) y P:=(p.wide fun _ _ q=>.inl q).trans (s.wide fun _ _ q=>.inr q);have E:=O.ae s (Ne.symm B);have qk:=aA (show OpP w r (.returned (.tuple #[.agg X1,.agg #[iV 0,iV 0,.string v]])) P by rw[U.out,<-dh];exact OpP.good er uy z C x (rz.out _ _ qr x) (0,0,v));clear O p s x;go_wp2;refine bodyPost_ret (v:=.tuple #[.agg X1,.agg #[iV 0,iV 0,.string v]]) (bH E jb H rfl rfl rfl) rfl ?_;exact qk.out
   ·exact absurd (by rw[CC]) (Wp.out (by omega))
theorem aLG(W:World):(Instr.build 31 #[]).run Tryz.prog W=.ok (.agg #[iV 0,iV 0,.string .empty]) W:=by kernel_rfl
theorem aJM(E:Inv f)(hV:VE f)(tree:Int)(key val:ByteArray)(Et:(aV f 1 tree key val).2=0)(w:World)(A:SA)(hS:SpV w A f)(kh:∃a n c,A.tv=.slice a n c):
  Calls Tryz.prog 33 #[.agg (aL A f),.agg #[iV 1,iV tree,.string key,.string val]] w (OpP w (opM f 1 tree key val)):=by
 have q0:¬inB 1 1 6=false:=by decide
 have EJ:=aA Et;clear Et;have Z:=dD A f;have fh:=dT hS kh;have jm:=aA fun(w':World) (hb:Bl w w') (c:Int)=>OpP.bad hS kh hb c;obtain⟨XS,xj⟩:=eZ (aL A f);rw[xj]at Z fh jm;rw[xj];have L3:=aA xj;clear xj;obtain⟨r,Hr⟩:∃r,Hid (opM f 1 tree key val=r):=⟨_,rfl⟩;rw[Hr.out];obtain⟨w1,bx⟩:=eZ (w.alloc (.cells XS 58));obtain⟨w2,de⟩:=eZ (w1.alloc (.cells #[iV 1,iV tree,.string key,.string val] 33));obtain⟨w3,di⟩:=eZ (w2.alloc (.cells #[iV 0,.slice none 0 0,.slice none 0 0,iV 0,iV 0,.slice none 0 0,.slice none 0 0] 58));obtain⟨X,ci⟩:=eZ (w3.alloc (.cells #[iV 0,iV 0,.string {data:=#[]}] 31));obtain⟨B2,c9⟩:=eZ (w.heap.size);obtain⟨B3,fv⟩:=eZ (w1.heap.size);obtain⟨B4,du⟩:=eZ (w2.heap.size);obtain⟨B5,su⟩:=eZ (w3.heap.size);have oz:∀(u:World) (o:Obj) (v:World),u.alloc o=v->Bl u v/\v.heap.size=u.heap.size+1:=fun u o v e=>by rw[<-e];exact⟨(bQ _ u).alloc (nR _) _,by simp⟩
 have o8:∀(u:World) (cs:Array Value) (ty:TypeId) (v:World),u.alloc (.cells cs ty)=v->IsC v u.heap.size cs ty:=fun u cs ty v e=>by rw[<-e];exact IsC.new _ _ _
 obtain⟨b1,s1⟩:=oz _ _ _ bx;obtain⟨b2,s2⟩:=oz _ _ _ de;obtain⟨b3,s3⟩:=oz _ _ _ di;obtain⟨b4,s4⟩:=oz _ _ _ ci;have n2:=o8 _ _ _ _ bx;have n3:=o8 _ _ _ _ de;have n4:=o8 _ _ _ _ di;have n5:=o8 _ _ _ _ ci;rw[c9]at n2;rw[fv]at n3;rw[du]at n4;rw[su]at n5;have P:Bl w3 X:=b4;have O:Bl w2 X:=b3.trans (P.mono (by omega));have N:Bl w1 X:=b2.trans (O.mono (by omega));have x:Bl w X:=b1.trans (N.mono (by omega));have i2:IsC X B2 XS 58:=n2.of (N.block _ n2.lt);have i3:=n3.of (O.block _ n3.lt);have i4:=n4.of (P.block _ n4.lt);have m24:B2≠B4:=by omega
 have k0:X.cell? (aD B3 0)=some (iV 1):=i3.c rfl;have HD:=aA (aI s1 (aI s2 (aI s3 (aI s4 (aI c9 (aI fv (aI du su)))))));have Ak:Hid (w.heap.size<=B4/\w.heap.size<=B5):=(show _/\_ from by omega);have rz:Hid (∀(wz w':World),Bl w wz->Frm (fun k=>k=B4\/k=B5) wz w'->Bl w w'):=fun wz w' hb hF=>hb.trans (hF.below hb.size fun k e=>by have:=Ak.out;rcases e with e | e<;>omega);clear oz o8 b1 b2 b3 b4 n2 n3 n4 P O N s1 s2 s3 s4;go_enter Tryz.func33,Tryz.ntmps33;have EO:=aA q0;have qy:=mX X A (hS.below x) (by have:=E.ic.n8;omega) E.ic.al E.ne (by have:=E.br;omega) kh;unfold stV at qy;rw[L3.out]at qy;have Dz:=aA qy;clear q0 qy;go_upto_region 3 with fail
 refine wp_region_list ?_;refine wpList_plain rfl (fun K2 b=>?_);refine cP _ rfl B2 i2 rfl Z ?_;refine b _ _ ?_;clear b K2;simp only[Act.put,sB,sZ,sS];refine wpList_plain rfl (fun K2 b=>?_);go_simp;refine Dz.out.mono ?_;rintro e w5 ⟨A1,rfl,bw,Fc,yn,bh,gi⟩;refine b _ _ ?_;clear b K2 Dz;have uy:∃a n c,A1.tv=.slice a n c:=by rw[Fc];exact kh
 have ot:=dT bw uy;have fz:=dD A1 f;obtain⟨X1,dh⟩:=eZ (aL A1 f);rw[dh]at ot fz;rw[dh];obtain⟨w6,so⟩:=eZ (w5.alloc (.cells #[iV 0,.slice none 0 0,.slice none 0 0,iV 0,iV 0,.slice none 0 0,.slice none 0 0] 58));obtain⟨s,sc⟩:=eZ (w5.heap.size);have i6:=iNw so sc;have nk:=bAl so;refine wpList_plain rfl (fun K2 b=>?_);go_simp;refine b _ _ ?_;clear b K2;refine wpList_plain rfl (fun K2 b=>?_);refine aM _ _ _ rfl s i6 rfl rfl fz (by rw[fz];kernel_rfl) ot fun Y j6 i=>?_;have wg:Bl w5 Y:=nk.trans (i.below nk.size fun k e=>by omega);have li:=gi.trans (wg.mono gi.size);have ku:=x.trans (li.mono x.size);have R:=i2.of (li.block _ i2.lt);have j:=i3.of (li.block _ i3.lt);have G:=i4.of (li.block _ i4.lt);have I:=n5.of (li.block _ n5.lt);have lu:Sp Y s A1 f:=⟨by rw[dh];exact j6,bw.below wg⟩;have Mk:Hid (w.heap.size<=s/\B2<s/\B4<s):=(show _/\_/\_ from by have:=x.size;have:=gi.size;have:=i2.lt;have:=i4.lt;omega);have k0':Y.cell? (aD B3 0)=some (iV 1):=j.c rfl;have k1':Y.cell? (aD B3 1)=some (iV tree):=j.c rfl;have k2':Y.cell? (aD B3 2)=some (.string key):=j.c rfl;have k3':Y.cell? (aD B3 3)=some (.string val):=j.c rfl;refine b _ _ ?_;clear b K2 i2 i3 i4 n5 k0 i6 so bx de di ci nk i wg li c9 fv du su sc HD;refine wpList_nil ?_;simp only[Act.put,sB,sZ,sS];have tj:=lG Y s A1 lu (by have:=E.br;omega) tree;go_wp2_with fail;refine tj.mono ?_;rintro e w8 ⟨rfl,rfl⟩;clear tj;cases kg:atT f tree with
 | none=>
  have ha:aV f 1 tree key val=(0,8):=by unfold aV;rw[if_neg EO.out,if_neg (by decide),kg]
  have:=EJ.out
  rw[ha]at this;cases this
 | some t=>
  have fu:=(mP kg).1;have hp:plZ f tree=(t:Int):=by unfold plZ;rw[kg]
  have EI:¬((t:Int)<0):=by omega
  have AL:aV f 1 tree key val=if(((1:Int)=1\/(1:Int)=2\/(1:Int)=6)/\12<key.size)\/((1:Int)=1/\10<val.size)then((0,4):Nat×Int)else(t,0):=by unfold aV;rw[if_neg EO.out,if_neg (by decide),kg]
  have mh:¬((((1:Int)=1\/(1:Int)=2\/(1:Int)=6)/\12<key.size)\/((1:Int)=1/\10<val.size)):=fun q=>by
   rw[if_pos q]at AL;have:=EJ.out;rw[AL]at this;cases this
  rw[if_neg mh]at AL;have MK:¬(12:Int) <(key.size:Int):=fun q=>mh (.inl ⟨.inl rfl,by omega⟩);have Z6:¬(10:Int) <(val.size:Int):=fun q=>mh (.inr ⟨rfl,by omega⟩);rw[hp];obtain⟨hW,ei,_⟩:=E.hOf fu;have J:B5≠B4:=I.ab G (by decide);have cq:=pN E.ic fu hW.ok key w8 s A1 lu;have ki:Hid (r=kQ f t key val):=by
   show r=_
   rw[<-Hr.out];unfold opM;rw[AL];rfl
  obtain⟨fo,SZ⟩:=eZ ((Fo.find f.n (hOf f t) (aB f t) key).isSome);obtain⟨gv,GB⟩:∃v,uR (Fo.find f.n (hOf f t) (aB f t) key)=.tuple #[.string v,.bool fo]:=by
   rw[<-SZ];cases Fo.find f.n (hOf f t) (aB f t) key with
   | none=>exact⟨_,rfl⟩
   | some v=>exact⟨_,rfl⟩
  rw[GB]at cq;have Qd:=aA SZ;clear AL mh Hr kg hp EO GB SZ;go_wp2_with fail;refine cq.mono ?_;rintro e w9 ⟨rfl,Q⟩;clear cq;have S:=R.of (Q.block _ R.lt);have l:=j.of (Q.block _ j.lt);have T:=G.of (Q.block _ G.lt);have K:=I.of (Q.block _ I.lt);have qr:=ku.trans (Q.mono ku.size);have y:=lu.below Q;have j69:=y.box;rw[dh]at j69;have k09:w9.cell? (aD B3 0)=some (iV 1):=l.c rfl;have k29:w9.cell? (aD B3 2)=some (.string key):=l.c rfl;have k39:w9.cell? (aD B3 3)=some (.string val):=l.c rfl;clear Q k0' k1' k2' k3' R j G I;have re:Hid (∀z,Frm (fun k=>k=s\/k=A1.ga\/k=A1.gr) w9 z->Bl w z/\IsC z B4 #[iV 0,.slice none 0 0,.slice none 0 0,iV 0,iV 0,.slice none 0 0,.slice none 0 0] 58/\IsC z B5 #[iV 0,iV 0,.string {data:=#[]}] 31/\IsC z B2 XS 58/\IsC z B3 #[iV 1,iV tree,.string key,.string val] 33):=fun z hF=>by
   have h6:=Mk.out;have OA:=lT x.size yn;have FG:=lT x.size bh;refine⟨qr.trans (hF.below qr.size fun k e=>by rcases e with e | e | e<;>omega),T.ae hF ?_,K.ae hF ?_,S.ae hF ?_,l.ae hF ?_⟩
   ·rintro(e | e | e)
    ·omega
    ·exact T.ab y.v.aq.arr (by decide) e
    ·exact T.ab y.v.bp (by decide) e
   ·rintro(e | e | e)
    ·exact K.ab y.box (by decide) e
    ·exact K.ab y.v.aq.arr (by decide) e
    ·exact K.ab y.v.bp (by decide) e
   ·rintro(e | e | e)
    ·omega
    ·exact S.ab y.v.aq.arr (by decide) e
    ·exact S.ab y.v.bp (by decide) e
   ·rintro(e | e | e)
    ·exact l.ab y.box (by decide) e
    ·exact l.ab y.v.aq.arr (by decide) e
    ·exact l.ab y.v.bp (by decide) e
  have ce:=aFX (key:=key) (val:=val) hW hV E.br w9 s A1 y;clear yn bh;go_wp2_with fail;refine ce.mono ?_;intro e z hz;have NE:Frm (fun k=>k=s\/k=A1.ga\/k=A1.gr) w9 z:=hz.ae.wide fun _ _ q=>.inr q;obtain⟨CT,H,L,F,i3k⟩:=re.out z NE;have k0k:z.cell? (aD B3 0)=some (iV 1):=i3k.c rfl;clear re ce NE k09 k29 k39;cases d:put f t (hOf f t) key val with
  | none=>
   obtain rfl:=hz.no (by rw[d];rfl);have W:Hid (r=(f,7,0,.empty)):=by show r=_;rw[ki.out];unfold kQ;rw[d]
   clear hz d;go_wp2;refine gB (d1:=112) (d2:=113) (c:=7) F Z fh H rfl L rfl m24 rfl (fun _ _=>rfl) (fun _ _=>rfl) (fun _ _=>rfl) (fun _ _=>rfl) (by kernel_rfl) (fun _ _ _ _ h=>h) (fun w' j4 j5 i=>?_);simp only[Act.put,sB,sZ,sS];have BZ:=aA (jm.out w' (rz.out _ _ CT i) 7);clear i;go_wp2;refine bodyPost_ret (v:=.tuple #[.agg XS,.agg #[iV 7,iV 0,.string .empty]]) (bH j4 j5 Z rfl rfl rfl) rfl ?_;rw[W.out];exact BZ.out
  | some gt=>
   obtain⟨g,th⟩:=gt;obtain⟨rfl,A2,sy,D4⟩:=hz.yes g (by rw[d];rfl);obtain⟨H',g1,g2,g3⟩:=xO hW ei d;have db:=qD (Inv.el (E.after g1 g2 g3)) z s A2 sy;have Z0:th=fo:=(aGI hW d).trans Qd.out;subst Z0;have M:Hid (r=if qI g=true then(g,0,if th then 1 else 0,.empty)else(f,7,0,.empty)):=by
    show r=_
    rw[ki.out];unfold kQ;rw[d];unfold qI;by_cases q:fR g.c g.m<2*fS g.c.length
    ·rw[if_neg (by simp;omega)];simp only;rw[if_pos q]
    ·rw[if_pos (by simp;omega)];simp only;rw[if_neg q]
   clear hz d g1 g2 g3;obtain⟨rm,FR⟩:=eZ (qI g);rw[FR]at db M;clear FR;go_wp2_with fail;refine db.mono ?_;rintro e wr ⟨rfl,sg⟩;have i2r:=F.of (sg.block _ F.lt);have B:=H.of (sg.block _ H.lt);have C:=L.of (sg.block _ L.lt);have Dc:=CT.trans (sg.mono CT.size);have Av:=sy.below sg;have uz:∃a n c,A2.tv=.slice a n c:=by rw[D4.tv];exact uy
   have mu:=dT Av.v uz;have D:=dD A2 g;have U:=Av.box;obtain⟨X2,gx⟩:=eZ (aL A2 g);rw[gx]at mu D U;clear db sg F H L i3k k0k;have R9:=qY;have YZ:=aLG;cases rm with
   | false=>
    have W:Hid (r=(f,7,0,.empty)):=M.out;clear M;go_wp2;refine gB (d1:=112) (d2:=113) (c:=7) i2r Z fh B rfl C rfl m24 rfl (fun _ _=>rfl) (fun _ _=>rfl) (fun _ _=>rfl) (fun _ _=>rfl) (by kernel_rfl) (fun _ _ _ _ h=>h) (fun w' j4 j5 i=>?_);simp only[Act.put,sB,sZ,sS];have BZ:=aA (jm.out w' (rz.out _ _ Dc i) 7);clear i;go_wp2;refine bodyPost_ret (v:=.tuple #[.agg XS,.agg #[iV 7,iV 0,.string .empty]]) (bH j4 j5 Z rfl rfl rfl) rfl ?_;rw[W.out];exact BZ.out
   | true=>
    cases th with
    | true=>
     have W:Hid (r=(g,0,1,.empty)):=M.out;clear M;go_upto_region 21 with fail
     refine wp_region_list ?_;refine wpList_plain rfl (fun K2 b=>?_);refine cP _ rfl s U rfl D ?_;refine b _ _ ?_;clear b K2;simp only[Act.put,sB,sZ,sS];refine wpList_plain rfl (fun K2 b=>?_);go_simp;refine b _ _ ?_;clear b K2;refine wpList_plain rfl (fun K2 b=>?_);refine aM _ _ _ rfl B4 B rfl rfl D (by rw[D];kernel_rfl) mu fun wa ja m=>?_;refine b _ _ ?_;clear b K2;simp only[Act.put,sB,sZ,sS];refine wpList_plain rfl (fun K2 b=>?_);refine aM (vs:=#[iV 0,iV 1,.string .empty]) _ _ _ rfl B5 (C.ae m J) rfl rfl rfl (by kernel_rfl) (by simp[Value.oneCell']) fun wb jb p=>?_;refine b _ _ ?_;clear b K2;refine wpList_nil ?_;simp only[Act.put,sB,sZ,sS];have i:Frm (fun k=>k=B4\/k=B5) wr wb:=(m.wide fun _ _ q=>.inl q).trans (p.wide fun _ _ q=>.inr q);have V:=ja.ae p (Ne.symm J);have qk:=aA (show OpP w r (.returned (.tuple #[.agg X2,.agg #[iV 0,iV 1,.string ByteArray.empty]])) wb by rw[W.out,<-gx];exact OpP.good Av uz B C i (rz.out _ _ Dc i) (0,1,ByteArray.empty));clear ja m p i;go_wp2;refine bodyPost_ret (v:=.tuple #[.agg X2,.agg #[iV 0,iV 1,.string .empty]]) (bH V jb D rfl rfl rfl) rfl ?_;exact qk.out
    | false=>
     have W:Hid (r=(g,0,0,.empty)):=M.out;clear M;go_upto_region 22 with fail
     refine wp_region_list ?_;refine wpList_plain rfl (fun K2 b=>?_);refine cP _ rfl s U rfl D ?_;refine b _ _ ?_;clear b K2;simp only[Act.put,sB,sZ,sS];refine wpList_plain rfl (fun K2 b=>?_);go_simp;refine b _ _ ?_;clear b K2;refine wpList_plain rfl (fun K2 b=>?_);refine aM _ _ _ rfl B4 B rfl rfl D (by rw[D];kernel_rfl) mu fun wa ja m=>?_;refine b _ _ ?_;clear b K2;simp only[Act.put,sB,sZ,sS];refine wpList_plain rfl (fun K2 b=>?_);refine aM (vs:=#[iV 0,iV 0,.string .empty]) _ _ _ rfl B5 (C.ae m J) rfl rfl rfl (by kernel_rfl) (by simp[Value.oneCell']) fun wb jb p=>?_;refine b _ _ ?_;clear b K2;refine wpList_nil ?_;simp only[Act.put,sB,sZ,sS];have i:Frm (fun k=>k=B4\/k=B5) wr wb:=(m.wide fun _ _ q=>.inl q).trans (p.wide fun _ _ q=>.inr q);have V:=ja.ae p (Ne.symm J);have qk:=aA (show OpP w r (.returned (.tuple #[.agg X2,.agg #[iV 0,iV 0,.string ByteArray.empty]])) wb by rw[W.out,<-gx];exact OpP.good Av uz B C i (rz.out _ _ Dc i) (0,0,ByteArray.empty));clear ja m p i;go_wp2;refine bodyPost_ret (v:=.tuple #[.agg X2,.agg #[iV 0,iV 0,.string .empty]]) (bH V jb D rfl rfl rfl) rfl ?_;exact qk.out
theorem aJL(H:Inv f)(hV:VE f)(tree:Int)(key val:ByteArray)(Et:(aV f 2 tree key val).2=0)(w:World)(A:SA)(hS:SpV w A f)(kh:∃a n c,A.tv=.slice a n c):
  Calls Tryz.prog 33 #[.agg (aL A f),.agg #[iV 2,iV tree,.string key,.string val]] w (OpP w (opM f 2 tree key val)):=by
 have q0:¬inB 2 1 6=false:=by decide
 have EJ:=aA Et;clear Et;have M:=dD A f;have fh:=dT hS kh;have jm:=aA fun(w':World) (hb:Bl w w') (c:Int)=>OpP.bad hS kh hb c;obtain⟨XS,xj⟩:=eZ (aL A f);rw[xj]at M fh jm;rw[xj];have L3:=aA xj;clear xj;obtain⟨r,Hr⟩:∃r,Hid (opM f 2 tree key val=r):=⟨_,rfl⟩;rw[Hr.out];obtain⟨w1,bx⟩:=eZ (w.alloc (.cells XS 58));obtain⟨w2,de⟩:=eZ (w1.alloc (.cells #[iV 2,iV tree,.string key,.string val] 33));obtain⟨w3,di⟩:=eZ (w2.alloc (.cells #[iV 0,.slice none 0 0,.slice none 0 0,iV 0,iV 0,.slice none 0 0,.slice none 0 0] 58));obtain⟨Y,ci⟩:=eZ (w3.alloc (.cells #[iV 0,iV 0,.string {data:=#[]}] 31));obtain⟨B2,c9⟩:=eZ (w.heap.size);obtain⟨B3,fv⟩:=eZ (w1.heap.size);obtain⟨B4,du⟩:=eZ (w2.heap.size);obtain⟨B5,su⟩:=eZ (w3.heap.size);have oz:∀(u:World) (o:Obj) (v:World),u.alloc o=v->Bl u v/\v.heap.size=u.heap.size+1:=fun u o v e=>by rw[<-e];exact⟨(bQ _ u).alloc (nR _) _,by simp⟩
 have o8:∀(u:World) (cs:Array Value) (ty:TypeId) (v:World),u.alloc (.cells cs ty)=v->IsC v u.heap.size cs ty:=fun u cs ty v e=>by rw[<-e];exact IsC.new _ _ _
 obtain⟨b1,s1⟩:=oz _ _ _ bx;obtain⟨b2,s2⟩:=oz _ _ _ de;obtain⟨b3,s3⟩:=oz _ _ _ di;obtain⟨b4,s4⟩:=oz _ _ _ ci;have n2:=o8 _ _ _ _ bx;have n3:=o8 _ _ _ _ de;have n4:=o8 _ _ _ _ di;have n5:=o8 _ _ _ _ ci;rw[c9]at n2;rw[fv]at n3;rw[du]at n4;rw[su]at n5;have Q:Bl w3 Y:=b4;have P:Bl w2 Y:=b3.trans (Q.mono (by omega));have O:Bl w1 Y:=b2.trans (P.mono (by omega));have y:Bl w Y:=b1.trans (O.mono (by omega));have i2:IsC Y B2 XS 58:=n2.of (O.block _ n2.lt);have i3:=n3.of (P.block _ n3.lt);have i4:=n4.of (Q.block _ n4.lt);have W:B2≠B4:=by omega
 have k0:Y.cell? (aD B3 0)=some (iV 2):=i3.c rfl;have HD:=aA (aI s1 (aI s2 (aI s3 (aI s4 (aI c9 (aI fv (aI du su)))))));have Ak:Hid (w.heap.size<=B4/\w.heap.size<=B5):=(show _/\_ from by omega);have rz:Hid (∀(wz w':World),Bl w wz->Frm (fun k=>k=B4\/k=B5) wz w'->Bl w w'):=fun wz w' hb hF=>hb.trans (hF.below hb.size fun k e=>by have:=Ak.out;rcases e with e | e<;>omega);clear oz o8 b1 b2 b3 b4 n2 n3 n4 Q P O s1 s2 s3 s4;go_enter Tryz.func33,Tryz.ntmps33;have EO:=aA q0;have qy:=mX Y A (hS.below y) (by have:=H.ic.n8;omega) H.ic.al H.ne (by have:=H.br;omega) kh;unfold stV at qy;rw[L3.out]at qy;have Dz:=aA qy;clear q0 qy;go_upto_region 3 with fail
 refine wp_region_list ?_;refine wpList_plain rfl (fun K2 b=>?_);refine cP _ rfl B2 i2 rfl M ?_;refine b _ _ ?_;clear b K2;simp only[Act.put,sB,sZ,sS];refine wpList_plain rfl (fun K2 b=>?_);go_simp;refine Dz.out.mono ?_;rintro e w5 ⟨A1,rfl,bw,Fc,yn,bh,gi⟩;refine b _ _ ?_;clear b K2 Dz;have uy:∃a n c,A1.tv=.slice a n c:=by rw[Fc];exact kh
 have ot:=dT bw uy;have fz:=dD A1 f;obtain⟨X1,dh⟩:=eZ (aL A1 f);rw[dh]at ot fz;rw[dh];obtain⟨w6,so⟩:=eZ (w5.alloc (.cells #[iV 0,.slice none 0 0,.slice none 0 0,iV 0,iV 0,.slice none 0 0,.slice none 0 0] 58));obtain⟨C,sc⟩:=eZ (w5.heap.size);have i6:=iNw so sc;have nk:=bAl so;refine wpList_plain rfl (fun K2 b=>?_);go_simp;refine b _ _ ?_;clear b K2;refine wpList_plain rfl (fun K2 b=>?_);refine aM _ _ _ rfl C i6 rfl rfl fz (by rw[fz];kernel_rfl) ot fun Z j6 p=>?_;have wg:Bl w5 Z:=nk.trans (p.below nk.size fun k e=>by omega);have li:=gi.trans (wg.mono gi.size);have ku:=y.trans (li.mono y.size);have z:=i2.of (li.block _ i2.lt);have i:=i3.of (li.block _ i3.lt);have m:=i4.of (li.block _ i4.lt);have s:=n5.of (li.block _ n5.lt);have lu:Sp Z C A1 f:=⟨by rw[dh];exact j6,bw.below wg⟩;have Mk:Hid (w.heap.size<=C/\B2<C/\B4<C):=(show _/\_/\_ from by have:=y.size;have:=gi.size;have:=i2.lt;have:=i4.lt;omega);have k0':Z.cell? (aD B3 0)=some (iV 2):=i.c rfl;have k1':Z.cell? (aD B3 1)=some (iV tree):=i.c rfl;have k2':Z.cell? (aD B3 2)=some (.string key):=i.c rfl;have k3':Z.cell? (aD B3 3)=some (.string val):=i.c rfl;refine b _ _ ?_;clear b K2 i2 i3 i4 n5 k0 i6 so bx de di ci nk p wg li c9 fv du su sc HD;refine wpList_nil ?_;simp only[Act.put,sB,sZ,sS];have tj:=lG Z C A1 lu (by have:=H.br;omega) tree;go_wp2_with fail;refine tj.mono ?_;rintro e w8 ⟨rfl,rfl⟩;clear tj;cases kg:atT f tree with
 | none=>
  have ha:aV f 2 tree key val=(0,8):=by unfold aV;rw[if_neg EO.out,if_neg (by decide),kg]
  have:=EJ.out
  rw[ha]at this;cases this
 | some t=>
  have fu:=(mP kg).1;have hp:plZ f tree=(t:Int):=by unfold plZ;rw[kg]
  have EI:¬((t:Int)<0):=by omega
  have AL:aV f 2 tree key val=if(((2:Int)=1\/(2:Int)=2\/(2:Int)=6)/\12<key.size)\/((2:Int)=1/\10<val.size)then((0,4):Nat×Int)else(t,0):=by unfold aV;rw[if_neg EO.out,if_neg (by decide),kg]
  have mh:¬((((2:Int)=1\/(2:Int)=2\/(2:Int)=6)/\12<key.size)\/((2:Int)=1/\10<val.size)):=fun q=>by
   rw[if_pos q]at AL;have:=EJ.out;rw[AL]at this;cases this
  rw[if_neg mh]at AL;have MK:¬(12:Int) <(key.size:Int):=fun q=>mh (.inl ⟨.inr (.inl rfl),by omega⟩);rw[hp];obtain⟨hW,ei,_⟩:=H.hOf fu;have n54:B5≠B4:=s.ab m (by decide);have N:=pN H.ic fu hW.ok key w8 C A1 lu;have ki:Hid (r=kV f t key):=by
   show r=_
   rw[<-Hr.out];unfold opM;rw[AL];rfl
  clear AL mh Hr kg hp EO;cases K:Fo.find f.n (hOf f t) (aB f t) key with
  | none=>
   have V:Hid (r=(f,9,0,.empty)):=by show r=_;rw[ki.out];unfold kV;rw[K]
   rw[K]at N;simp only[uR]at N;clear K;go_wp2_with fail;refine N.mono ?_;rintro e G ⟨rfl,j⟩;clear N;have D:=z.of (j.block _ z.lt);have d:=i.of (j.block _ i.lt);have E:=m.of (j.block _ m.lt);have B:=s.of (j.block _ s.lt);have qr:=ku.trans (j.mono ku.size);have x:=lu.below j;have S:=x.box;rw[dh]at S;have k09:G.cell? (aD B3 0)=some (iV 2):=d.c rfl;have k29:G.cell? (aD B3 2)=some (.string key):=d.c rfl;have k39:G.cell? (aD B3 3)=some (.string val):=d.c rfl;clear j k0' k1' k2' k3' z i m s;go_wp2;refine gB (d1:=121) (d2:=122) (c:=9) D M fh E rfl B rfl W rfl (fun _ _=>rfl) (fun _ _=>rfl) (fun _ _=>rfl) (fun _ _=>rfl) (by kernel_rfl) (fun _ _ _ _ h=>h) (fun w' j4 j5 p=>?_);simp only[Act.put,sB,sZ,sS];have BZ:=aA (jm.out w' (rz.out _ _ qr p) 9);clear p;go_wp2;refine bodyPost_ret (v:=.tuple #[.agg XS,.agg #[iV 9,iV 0,.string .empty]]) (bH j4 j5 M rfl rfl rfl) rfl ?_;rw[V.out];exact BZ.out
  | some v=>
   have hm:=jM hW.ok K;rw[K]at N;simp only[uR]at N;go_wp2_with fail;refine N.mono ?_;rintro e G ⟨rfl,j⟩;clear N;have D:=z.of (j.block _ z.lt);have d:=i.of (j.block _ i.lt);have E:=m.of (j.block _ m.lt);have B:=s.of (j.block _ s.lt);have qr:=ku.trans (j.mono ku.size);have x:=lu.below j;have S:=x.box;rw[dh]at S;have k09:G.cell? (aD B3 0)=some (iV 2):=d.c rfl;have k29:G.cell? (aD B3 2)=some (.string key):=d.c rfl;have k39:G.cell? (aD B3 3)=some (.string val):=d.c rfl;clear j k0' k1' k2' k3' z i m s;have re:Hid (∀F,Frm (fun k=>k=C\/k=A1.ga\/k=A1.gr) G F->Bl w F/\IsC F B4 #[iV 0,.slice none 0 0,.slice none 0 0,iV 0,iV 0,.slice none 0 0,.slice none 0 0] 58/\IsC F B5 #[iV 0,iV 0,.string {data:=#[]}] 31/\IsC F B2 XS 58/\IsC F B3 #[iV 2,iV tree,.string key,.string val] 33):=fun F hF=>by
    have h6:=Mk.out;have OA:=lT y.size yn;have FG:=lT y.size bh;refine⟨qr.trans (hF.below qr.size fun k e=>by rcases e with e | e | e<;>omega),E.ae hF ?_,B.ae hF ?_,D.ae hF ?_,d.ae hF ?_⟩
    ·rintro(e | e | e)
     ·omega
     ·exact E.ab x.v.aq.arr (by decide) e
     ·exact E.ab x.v.bp (by decide) e
    ·rintro(e | e | e)
     ·exact B.ab x.box (by decide) e
     ·exact B.ab x.v.aq.arr (by decide) e
     ·exact B.ab x.v.bp (by decide) e
    ·rintro(e | e | e)
     ·omega
     ·exact D.ab x.v.aq.arr (by decide) e
     ·exact D.ab x.v.bp (by decide) e
    ·rintro(e | e | e)
     ·exact d.ab x.box (by decide) e
     ·exact d.ab x.v.aq.arr (by decide) e
     ·exact d.ab x.v.bp (by decide) e
   have ce:=xC hW hV H.br ei hm G C A1 x;clear yn bh;go_wp2_with fail;refine ce.mono ?_;intro e F hz;have NE:Frm (fun k=>k=C\/k=A1.ga\/k=A1.gr) G F:=hz.ae.wide fun _ _ q=>.inr q;obtain⟨CT,J,L,I,i3k⟩:=re.out F NE;clear re ce NE k09 k29 k39;cases l:bX f t (hOf f t) key with
   | none=>
    obtain rfl:=hz.no l;have V:Hid (r=(f,7,0,.empty)):=by show r=_;rw[ki.out];unfold kV;rw[K];simp only;rw[l]
    clear hz l K;go_wp2;refine gB (d1:=135) (d2:=136) (c:=7) I M fh J rfl L rfl W rfl (fun _ _=>rfl) (fun _ _=>rfl) (fun _ _=>rfl) (fun _ _=>rfl) (by kernel_rfl) (fun _ _ _ _ h=>h) (fun w' j4 j5 p=>?_);simp only[Act.put,sB,sZ,sS];have BZ:=aA (jm.out w' (rz.out _ _ CT p) 7);clear p;go_wp2;refine bodyPost_ret (v:=.tuple #[.agg XS,.agg #[iV 7,iV 0,.string .empty]]) (bH j4 j5 M rfl rfl rfl) rfl ?_;rw[V.out];exact BZ.out
   | some g=>
    obtain⟨rfl,A2,sy,D4⟩:=hz.yes g l;obtain⟨H',g1,g2,g3⟩:=pR hW ei hm l;have db:=qD (Inv.el (H.after g1 g2 g3)) F C A2 sy;have DM:Hid (r=if qI g=true then(g,0,0,v)else(f,7,0,.empty)):=by
     show r=_
     rw[ki.out];unfold kV;rw[K];simp only;rw[l];unfold qI;by_cases q:fR g.c g.m<2*fS g.c.length
     ·rw[if_neg (by simp;omega)];simp only;rw[if_pos q]
     ·rw[if_pos (by simp;omega)];simp only;rw[if_neg q]
    clear hz l g1 g2 g3 K;obtain⟨rm,FR⟩:=eZ (qI g);rw[FR]at db DM;clear FR;go_wp2_with fail;refine db.mono ?_;rintro e wr ⟨rfl,sg⟩;have i2r:=I.of (sg.block _ I.lt);have R:=J.of (sg.block _ J.lt);have X:=L.of (sg.block _ L.lt);have Dc:=CT.trans (sg.mono CT.size);have Av:=sy.below sg;have uz:∃a n c,A2.tv=.slice a n c:=by rw[D4.tv];exact uy
    have mu:=dT Av.v uz;have eu:=dD A2 g;have j62:=Av.box;obtain⟨X2,gx⟩:=eZ (aL A2 g);rw[gx]at mu eu j62;clear db sg I J L i3k;have R9:=qZ;cases rm with
    | false=>
     have V:Hid (r=(f,7,0,.empty)):=DM.out;clear DM;go_wp2;refine gB (d1:=135) (d2:=136) (c:=7) i2r M fh R rfl X rfl W rfl (fun _ _=>rfl) (fun _ _=>rfl) (fun _ _=>rfl) (fun _ _=>rfl) (by kernel_rfl) (fun _ _ _ _ h=>h) (fun w' j4 j5 p=>?_);simp only[Act.put,sB,sZ,sS];have BZ:=aA (jm.out w' (rz.out _ _ Dc p) 7);clear p;go_wp2;refine bodyPost_ret (v:=.tuple #[.agg XS,.agg #[iV 7,iV 0,.string .empty]]) (bH j4 j5 M rfl rfl rfl) rfl ?_;rw[V.out];exact BZ.out
    | true=>
     have V:Hid (r=(g,0,0,v)):=DM.out;clear DM;go_upto_region 28 with fail
     refine wp_region_list ?_;refine wpList_plain rfl (fun K2 b=>?_);refine cP _ rfl C j62 rfl eu ?_;refine b _ _ ?_;clear b K2;simp only[Act.put,sB,sZ,sS];refine wpList_plain rfl (fun K2 b=>?_);go_simp;refine b _ _ ?_;clear b K2;refine wpList_plain rfl (fun K2 b=>?_);go_simp;refine b _ _ ?_;clear b K2;refine wpList_plain rfl (fun K2 b=>?_);refine aM _ _ _ rfl B4 R rfl rfl eu (by rw[eu];kernel_rfl) mu fun wa ja T=>?_;refine b _ _ ?_;clear b K2;simp only[Act.put,sB,sZ,sS];refine wpList_plain rfl (fun K2 b=>?_);refine aM (vs:=#[iV 0,iV 0,.string v]) _ _ _ rfl B5 (X.ae T n54) rfl rfl rfl (by kernel_rfl) (by simp[Value.oneCell']) fun wb jb U=>?_;refine b _ _ ?_;clear b K2;refine wpList_nil ?_;simp only[Act.put,sB,sZ,sS];have p:Frm (fun k=>k=B4\/k=B5) wr wb:=(T.wide fun _ _ q=>.inl q).trans (U.wide fun _ _ q=>.inr q);have ja':=ja.ae U (Ne.symm n54);have qk:=aA (show OpP w r (.returned (.tuple #[.agg X2,.agg #[iV 0,iV 0,.string v]])) wb by rw[V.out,<-gx];exact OpP.good Av uz R X p (rz.out _ _ Dc p) (0,0,v));clear ja T U p;go_wp2;refine bodyPost_ret (v:=.tuple #[.agg X2,.agg #[iV 0,iV 0,.string v]]) (bH ja' jb eu rfl rfl rfl) rfl ?_;exact qk.out
theorem aJK(b:Inv f)(i:VE f)(kind tree:Int)(key val:ByteArray)(h:kind≠5)(w:World)(A:SA)(d:SpV w A f)(e:∃a n c,A.tv=.slice a n c):
  Calls Tryz.prog 33 #[.agg (aL A f),.agg #[iV kind,iV tree,.string key,.string val]] w (OpP w (opM f kind tree key val)):=by
 by_cases g:(aV f kind tree key val).2=0
 ·by_cases j:kind=1
  ·subst j;exact aJM b i tree key val g w A d e
  ·by_cases k:kind=2
   ·subst k;exact aJL b i tree key val g w A d e
   ·exact vQ b kind tree key val h (fun q=>absurd q (by omega)) w A d e
 ·exact vQ b kind tree key val h (fun _=>g) w A d e
def aNE(p:VW):List Value:=[iV p.1,iV p.2.1,iV p.2.2.1,iV p.2.2.2.1,iV p.2.2.2.2]
def yW:Ely VW where
 cell:=aNE
 n:=5
 z:=(0,0,0,0,0)
 zv:=.agg #[iV 0,iV 0,iV 0,iV 0,iV 0]
 t:=48
 s:=37
 by':=40
 hn:=fun _=>rfl
 hp:=by omega
 one:=fun a v hv=>by simp only[aNE,List.mem_cons,List.not_mem_nil,or_false]at hv;rcases hv with rfl | rfl | rfl | rfl | rfl<;>rfl
 hz:=by kernel_rfl
 us:=Tryz.underlying37
 hb:=by omega
 info:=pJ (by kernel_rfl)
theorem Ely.Own.one{α:Type}{Y:Ely α}(base:Nat)(w:World)(e:α){cs:Array Value}(hc:cs=(Y.cell e).toArray)(a:base<=w.heap.size){g:Nat}(b:g=w.heap.size):Y.Own base (w.alloc (.cells cs Y.t)) (sL g 0 1 1) [e]:=by
 subst b;subst hc;refine⟨some w.heap.size,[],rfl,⟨fun g e'=>?_,fun e=>(by cases e),by simp[maxLen]⟩,fun g e=>(by cases e;exact a)⟩;cases e';have:=IsC.new w (Y.cell e).toArray Y.t;simpa [Ely.row] using this
theorem aNP(W:World)(a b c d e:Int):(Instr.build 48 #[(0,iV a),(1,iV b),(2,iV c),(3,iV d),(4,iV e)]).run Tryz.prog W=.ok (.agg #[iV a,iV b,iV c,iV d,iV e]) W:=by kernel_rfl
theorem aPK{u:Value}{l:List VW}(h:yW.Sl w u l)(j:0<l.length):∃g o c,u=sL g o l.length c/\g<w.heap.size/\∀(w':World) (i:Nat),(w'.heap[g]?=w.heap[g]?)->i<l.length->w'.cell? (aD g (o+i*5))=some (iV (l.getD i yW.z).1)/\w'.cell? (aD g (o+i*5+1))=some (iV (l.getD i yW.z).2.1)/\w'.cell? (aD g (o+i*5+1+1))=some (iV (l.getD i yW.z).2.2.1)/\w'.cell? (aD g (o+i*5+1+1+1))=some (iV (l.getD i yW.z).2.2.2.1)/\w'.cell? (aD g (o+i*5+1+1+1+1))=some (iV (l.getD i yW.z).2.2.2.2):=by
 obtain⟨g,o,c,rfl,f,a⟩:=h.at j;refine⟨g,o,c,rfl,f,fun w' i e b=>?_⟩;have d:∀k,w'.cell? (aD g k)=w.cell? (aD g k):=fun k=>by simp[World.cell?,e]
 exact⟨(d _).trans (a i 0 b (by decide)),(d _).trans (a i 1 b (by decide)),(d _).trans (a i 2 b (by decide)),(d _).trans (a i 3 b (by decide)),(d _).trans (a i 4 b (by decide))⟩
