import Derived.Test.YtmpagpeenjddgaaGreatSq21
set_option maxHeartbeats 9999999
set_option maxRecDepth 99999
set_option linter.all false
namespace Go.Proofs.YtmpagpeenjddgaaGreat
open Go.RowKit Fo
variable{y4 y5:Array Value}{l:List VW}{B4 B5:Nat}{u:Value}{w w':World}{f:fZ}
theorem SpV.er{A:SA}(h:SpV w A f)(a:IsC w B4 y4 58)(b:IsC w B5 y5 31)(hF:Frm (fun k=>k=B4\/k=B5) w w'):SpV w' A f:=
 ⟨h.aq.ae hF (fun g cs k e=>e.elim (k.ab a (by decide)) (k.ab b (by decide))) (fun e=>e.elim (h.aq.arr.ab a (by decide)) (h.aq.arr.ab b (by decide))),h.ln,h.bo.ae hF (fun e=>e.elim (h.bo.ab a (by decide)) (h.bo.ab b (by decide))),h.rs,h.m.ae hF (fun g cs k e=>e.elim (k.ab a (by decide)) (k.ab b (by decide)))⟩
theorem OpP.good{w9:World}{A2:SA}{g:fZ}{B6:Nat}(e:Sp w9 B6 A2 g)(h:∃a n c,A2.tv=.slice a n c)(b:IsC w9 B4 y4 58)(d:IsC w9 B5 y5 31)(hF:Frm (fun k=>k=B4\/k=B5) w9 w')(f:Bl w w')(a:An):OpP w (g,a) (.returned (.tuple #[.agg (aL A2 g),bW a])) w':=
 ⟨⟨A2,rfl,e.v.er b d hF,h⟩,f⟩
theorem buildA01(W:World)(c v:Int):(Instr.build 31 #[(0,.int .i64 c),(1,.int .i64 v)]).run Tryz.prog W=.ok (.agg #[.int .i64 c,.int .i64 v,.string .empty]) W:=by kernel_rfl
theorem vQ(R:Inv f)(kind tree:Int)(key val:ByteArray)(h5:kind≠5)(T3:kind=1\/kind=2->(aT f kind tree key val).2≠0)(w:World)(A:SA)(hS:SpV w A f)(jl:∃a n c,A.tv=.slice a n c):
  Calls Tryz.prog 33 #[.agg (aL A f),.agg #[.int .i64 kind,.int .i64 tree,.string key,.string val]] w (OpP w (opM f kind tree key val)):=by
 by_cases q0:inB kind 1 6=false
 ·exact aFT kind tree key val q0 w A hS jl
 have Vk:=aA T3;clear T3;have N:=dC A f;have fh:=dS hS jl;have i5:=aA fun(w':World) (hb:Bl w w') (c:Int)=>OpP.bad hS jl hb c;obtain⟨XS,wi⟩:=eZ (aL A f);rw[wi]at N fh i5;rw[wi];have LZ:=aA wi;clear wi;obtain⟨r,Hr⟩:∃r,Hid (opM f kind tree key val=r):=⟨_,rfl⟩;rw[Hr.out];obtain⟨w1,ci⟩:=eZ (w.alloc (.cells XS 58));obtain⟨w2,dh⟩:=eZ (w1.alloc (.cells #[.int .i64 kind,.int .i64 tree,.string key,.string val] 33));obtain⟨w3,du⟩:=eZ (w2.alloc (.cells #[.int .i64 0,.slice none 0 0,.slice none 0 0,.int .i64 0,.int .i64 0,.slice none 0 0,.slice none 0 0] 58));obtain⟨w4,cx⟩:=eZ (w3.alloc (.cells #[.int .i64 0,.int .i64 0,.string {data:=#[]}] 31));obtain⟨B2,di⟩:=eZ (w.heap.size);obtain⟨B3,fv⟩:=eZ (w1.heap.size);obtain⟨B4,d5⟩:=eZ (w2.heap.size);obtain⟨B5,sm⟩:=eZ (w3.heap.size);have nz:∀(u:World) (o:Obj) (v:World),u.alloc o=v->Bl u v/\v.heap.size=u.heap.size+1:=fun u o v e=>by rw[<-e];exact⟨(bQ _ u).alloc (nR _) _,by simp⟩
 have od:∀(u:World) (cs:Array Value) (ty:TypeId) (v:World),u.alloc (.cells cs ty)=v->IsC v u.heap.size cs ty:=fun u cs ty v e=>by rw[<-e];exact IsC.new _ _ _
 obtain⟨b1,s1⟩:=nz _ _ _ ci;obtain⟨b2,s2⟩:=nz _ _ _ dh;obtain⟨b3,s3⟩:=nz _ _ _ du;obtain⟨b4,s4⟩:=nz _ _ _ cx;have n2:=od _ _ _ _ ci;have n3:=od _ _ _ _ dh;have n4:=od _ _ _ _ du;have n5:=od _ _ _ _ cx;rw[di]at n2;rw[fv]at n3;rw[d5]at n4;rw[sm]at n5;have c34:Bl w3 w4:=b4;have c24:Bl w2 w4:=b3.trans (c34.mono (by omega));have c14:Bl w1 w4:=b2.trans (c24.mono (by omega));have Q:Bl w w4:=b1.trans (c14.mono (by omega));have i2:IsC w4 B2 XS 58:=n2.of (c14.block _ n2.lt);have i3:=n3.of (c24.block _ n3.lt);have i4:=n4.of (c34.block _ n4.lt);have T:B2≠B4:=by omega
 have k0:w4.cell? ⟨B3,0,none⟩=some (.int .i64 kind):=i3.c rfl;have HD:=aA (aI s1 (aI s2 (aI s3 (aI s4 (aI di (aI fv (aI d5 sm)))))));have AT:Hid (w.heap.size<=B4/\w.heap.size<=B5):=(show _/\_ from by omega);have ru:Hid (∀(wz w':World),Bl w wz->Frm (fun k=>k=B4\/k=B5) wz w'->Bl w w'):=fun wz w' hb hF=>hb.trans (hF.below hb.size fun k e=>by have:=AT.out;rcases e with e | e<;>omega);have xe:inB kind 1 6=false->aT f kind tree key val=(0,5):=fun q=>by unfold aT;rw[if_pos q]
 clear nz od b1 b2 b3 b4 n2 n3 n4 c34 c24 c14 s1 s2 s3 s4;go_enter Tryz.func33,Tryz.ntmps33;have q2:1<=kind/\kind<=6:=by unfold inB at q0;simpa using q0
 obtain⟨q2,q3⟩:=q2;have q4:¬kind<1:=by omega
 have q5:¬6<kind:=by omega
 have D7:=aA q0;have qr:=mW w4 A (hS.below Q) (by have:=R.ic.n8;omega) R.ic.al R.ne (by have:=R.bq;omega) jl;unfold stV at qr;rw[LZ.out]at qr;have Dj:=aA qr;clear xe q0 qr;go_upto_region 3 with fail
 refine wp_region_list ?_;refine wpList_plain rfl (fun K2 g=>?_);refine cR _ rfl B2 i2 rfl N ?_;refine g _ _ ?_;clear g K2;simp only[Act.put,sB,sZ,sS];refine wpList_plain rfl (fun K2 g=>?_);go_simp;refine Dj.out.mono ?_;rintro e w5 ⟨A1,rfl,cg,FG,xu,bo,ef⟩;refine g _ _ ?_;clear g K2 Dj;have uj:∃a n c,A1.tv=.slice a n c:=by rw[FG];exact jl
 have nw:=dS cg uj;have H:=dC A1 f;obtain⟨X1,dm⟩:=eZ (aL A1 f);rw[dm]at nw H;rw[dm];obtain⟨w6,sg⟩:=eZ (w5.alloc (.cells #[.int .i64 0,.slice none 0 0,.slice none 0 0,.int .i64 0,.int .i64 0,.slice none 0 0,.slice none 0 0] 58));obtain⟨F,r9⟩:=eZ (w5.heap.size);have i6:=iNw sg r9;have kh:=bAl sg;refine wpList_plain rfl (fun K2 g=>?_);go_simp;refine g _ _ ?_;clear g K2;refine wpList_plain rfl (fun K2 g=>?_);refine aK _ _ _ rfl F i6 rfl rfl H (by rw[H];kernel_rfl) nw fun w7 j6 x=>?_;have vn:Bl w5 w7:=kh.trans (x.below kh.size fun k e=>by omega);have kz:=ef.trans (vn.mono ef.size);have S:=Q.trans (kz.mono Q.size);have l:=i2.of (kz.block _ i2.lt);have m:=i3.of (kz.block _ i3.lt);have j:=i4.of (kz.block _ i4.lt);have i:=n5.of (kz.block _ n5.lt);have D:Sp w7 F A1 f:=⟨by rw[dm];exact j6,cg.below vn⟩;have MF:Hid (w.heap.size<=F/\B2<F/\B4<F):=(show _/\_/\_ from by have:=Q.size;have:=ef.size;have:=i2.lt;have:=i4.lt;omega);have J:w7.cell? ⟨B3,0,none⟩=some (.int .i64 kind):=m.c rfl;have K:w7.cell? ⟨B3,1,none⟩=some (.int .i64 tree):=m.c rfl;have L:w7.cell? ⟨B3,2,none⟩=some (.string key):=m.c rfl;have M:w7.cell? ⟨B3,3,none⟩=some (.string val):=m.c rfl;refine g _ _ ?_;clear g K2 i2 i3 i4 n5 k0 i6 sg ci dh du cx kh x vn kz di fv d5 sm r9 HD;refine wpList_nil ?_;simp only[Act.put,sB,sZ,sS];have sx:=lI w7 F A1 D (by have:=R.bq;omega) tree;go_wp2_with fail;refine sx.mono ?_;rintro e w8 ⟨rfl,rfl⟩;clear sx;cases ke:atT f tree with
 | none=>
  have HA:Hid (r=(f,8,0,.empty)):=by
   show r=_
   rw[<-Hr.out];have ha:aT f kind tree key val=(0,8):=by unfold aT;rw[if_neg D7.out,if_neg h5,ke]
   unfold opM;rw[ha];rfl
  have hp:plZ f tree=-1:=by unfold plZ;rw[ke]
  rw[hp];clear ke hp;go_wp2;refine gG (d1:=32) (d2:=33) (c:=8) l N fh j rfl i rfl T rfl (fun _ _=>rfl) (fun _ _=>rfl) (fun _ _=>rfl) (fun _ _=>rfl) (by kernel_rfl) (fun _ _ _ _ h=>h) (fun w' X Y x=>?_);clear l m j i J K L M;simp only[Act.put,sB,sZ,sS];go_wp2;refine bodyPost_ret (v:=.tuple #[.agg XS,.agg #[.int .i64 8,.int .i64 0,.string .empty]]) (bE X Y N rfl rfl rfl) rfl ?_;rw[HA.out];exact i5.out w' (ru.out _ _ S x) 8
 | some t=>
  have fi:=(mO ke).1;have hp:plZ f tree=(t:Int):=by unfold plZ;rw[ke]
  have Dx:¬((t:Int)<0):=by omega
  have zz:aT f kind tree key val=if((kind=1\/kind=2\/kind=6)/\12<key.size)\/(kind=1/\10<val.size)then((0,4):Nat×Int)else(t,0):=by unfold aT;rw[if_neg D7.out,if_neg h5,ke]
  rw[hp];clear ke hp D7;by_cases lz:((kind=1\/kind=2\/kind=6)/\12<key.size)\/(kind=1/\10<val.size)
  ·have HA:Hid (r=(f,4,0,.empty)):=by
    show r=_
    rw[<-Hr.out];unfold opM;rw[zz,if_pos lz];rfl
   clear zz Hr;by_cases m0:12<key.size
   ·have Lq:(12:Int) <(key.size:Int):=by omega
    have rh:kind=1\/kind=2\/kind=6:=by rcases lz with⟨e,_⟩ | ⟨e,_⟩<;>simp[e]
    clear lz;rcases rh with rfl | rfl | rfl
    ·go_wp2
     refine gG (d1:=65) (d2:=66) (c:=4) l N fh j rfl i rfl T rfl (fun _ _=>rfl) (fun _ _=>rfl) (fun _ _=>rfl) (fun _ _=>rfl) (by kernel_rfl) (fun _ _ _ _ h=>h) (fun w' X Y x=>?_);clear l m j i J K L M;simp only[Act.put,sB,sZ,sS];go_wp2;refine bodyPost_ret (v:=.tuple #[.agg XS,.agg #[.int .i64 4,.int .i64 0,.string .empty]]) (bE X Y N rfl rfl rfl) rfl ?_;rw[HA.out];exact i5.out w' (ru.out _ _ S x) 4
    ·go_wp2
     refine gG (d1:=65) (d2:=66) (c:=4) l N fh j rfl i rfl T rfl (fun _ _=>rfl) (fun _ _=>rfl) (fun _ _=>rfl) (fun _ _=>rfl) (by kernel_rfl) (fun _ _ _ _ h=>h) (fun w' X Y x=>?_);clear l m j i J K L M;simp only[Act.put,sB,sZ,sS];go_wp2;refine bodyPost_ret (v:=.tuple #[.agg XS,.agg #[.int .i64 4,.int .i64 0,.string .empty]]) (bE X Y N rfl rfl rfl) rfl ?_;rw[HA.out];exact i5.out w' (ru.out _ _ S x) 4
    ·go_wp2
     refine gG (d1:=65) (d2:=66) (c:=4) l N fh j rfl i rfl T rfl (fun _ _=>rfl) (fun _ _=>rfl) (fun _ _=>rfl) (fun _ _=>rfl) (by kernel_rfl) (fun _ _ _ _ h=>h) (fun w' X Y x=>?_);clear l m j i J K L M;simp only[Act.put,sB,sZ,sS];go_wp2;refine bodyPost_ret (v:=.tuple #[.agg XS,.agg #[.int .i64 4,.int .i64 0,.string .empty]]) (bE X Y N rfl rfl rfl) rfl ?_;rw[HA.out];exact i5.out w' (ru.out _ _ S x) 4
   ·have Lq:¬(12:Int) <(key.size:Int):=by omega
    have hv:kind=1/\10<val.size:=by rcases lz with⟨_,e⟩ | e;exact absurd e m0;exact e
    obtain⟨rfl,hv⟩:=hv;have Yx:(10:Int) <(val.size:Int):=by omega
    clear lz;go_wp2;refine gG (d1:=65) (d2:=66) (c:=4) l N fh j rfl i rfl T rfl (fun _ _=>rfl) (fun _ _=>rfl) (fun _ _=>rfl) (fun _ _=>rfl) (by kernel_rfl) (fun _ _ _ _ h=>h) (fun w' X Y x=>?_);clear l m j i J K L M;simp only[Act.put,sB,sZ,sS];go_wp2;refine bodyPost_ret (v:=.tuple #[.agg XS,.agg #[.int .i64 4,.int .i64 0,.string .empty]]) (bE X Y N rfl rfl rfl) rfl ?_;rw[HA.out];exact i5.out w' (ru.out _ _ S x) 4
  ·have Bh:aT f kind tree key val=(t,0):=by rw[zz,if_neg lz]
   have B:B5≠B4:=i.ab j (by decide);have H0:=buildA01;have Xa:=qZ;obtain⟨hW,ed,_⟩:=R.hOf fi;have qx:Hid (∀y,Frm (fun k=>k=F\/k=A1.ga\/k=A1.gr) w8 y->Bl w y/\IsC y B4 #[.int .i64 0,.slice none 0 0,.slice none 0 0,.int .i64 0,.int .i64 0,.slice none 0 0,.slice none 0 0] 58/\IsC y B5 #[.int .i64 0,.int .i64 0,.string {data:=#[]}] 31/\IsC y B2 XS 58/\IsC y B3 #[.int .i64 kind,.int .i64 tree,.string key,.string val] 33):=fun y hF=>by
    have h6:=MF.out;have Nb:=lT Q.size xu;have Ey:=lT Q.size bo;refine⟨S.trans (hF.below S.size fun k e=>by rcases e with e | e | e<;>omega),j.ae hF ?_,i.ae hF ?_,l.ae hF ?_,m.ae hF ?_⟩
    ·rintro(e | e | e)
     ·omega
     ·exact j.ab D.v.aq.arr (by decide) e
     ·exact j.ab D.v.bo (by decide) e
    ·rintro(e | e | e)
     ·exact i.ab D.box (by decide) e
     ·exact i.ab D.v.aq.arr (by decide) e
     ·exact i.ab D.v.bo (by decide) e
    ·rintro(e | e | e)
     ·omega
     ·exact l.ab D.v.aq.arr (by decide) e
     ·exact l.ab D.v.bo (by decide) e
    ·rintro(e | e | e)
     ·exact m.ab D.box (by decide) e
     ·exact m.ab D.v.aq.arr (by decide) e
     ·exact m.ab D.v.bo (by decide) e
   by_cases e3:kind=3
   ·subst e3
    have jr:Hid (r=kR f t):=by
     show r=_
     rw[<-Hr.out];unfold opM;rw[Bh];rfl
    clear zz Bh lz Hr xu bo;by_cases W:16<=f.r.length\/65535<=f.next
    ·have ll:=aCC (t:=t) W w8 F A1 D
     have U:Hid (r=(f,4,0,.empty)):=by
      show r=_
      rw[jr.out];unfold kR;rw[if_pos W]
     clear W;go_wp2_with fail;refine ll.mono ?_;rintro e y ⟨rfl,rfl⟩;clear ll;go_upto_region 12 with fail
     refine wp_region_list ?_;refine wpList_plain rfl (fun K2 g=>?_);refine cR _ rfl F j6 rfl H ?_;refine g _ _ ?_;clear g K2;simp only[Act.put,sB,sZ,sS];refine wpList_plain rfl (fun K2 g=>?_);go_simp;refine g _ _ ?_;clear g K2;refine wpList_plain rfl (fun K2 g=>?_);go_simp;refine g _ _ ?_;clear g K2;refine wpList_plain rfl (fun K2 g=>?_);go_simp;refine g _ _ ?_;clear g K2;refine wpList_plain rfl (fun K2 g=>?_);refine aK _ _ _ rfl B4 j rfl rfl H (by rw[H];kernel_rfl) nw fun wa O p=>?_;refine g _ _ ?_;clear g K2;simp only[Act.put,sB,sZ,sS];refine wpList_plain rfl (fun K2 g=>?_);refine aK (vs:=#[.int .i64 4,.int .i64 0,.string .empty]) _ _ _ rfl B5 (i.ae p B) rfl rfl rfl (by kernel_rfl) (by simp[Value.oneCell']) fun P jb s=>?_;refine g _ _ ?_;clear g K2;refine wpList_nil ?_;simp only[Act.put,sB,sZ,sS];have x:Frm (fun k=>k=B4\/k=B5) y P:=(p.wide fun _ _ q=>.inl q).trans (s.wide fun _ _ q=>.inr q);have E:=O.ae s (Ne.symm B);have pp:=aA (show OpP w r (.returned (.tuple #[.agg X1,.agg #[.int .i64 4,.int .i64 0,.string ByteArray.empty]])) P by rw[U.out,<-dm];exact OpP.good D uj j i x (ru.out _ _ S x) (4,0,ByteArray.empty));clear O p s x;go_wp2;refine bodyPost_ret (v:=.tuple #[.agg X1,.agg #[.int .i64 4,.int .i64 0,.string .empty]]) (bE E jb H rfl rfl rfl) rfl ?_;exact pp.out
    ·have fz:=zP R.ic fi (by omega) ⟨by have:=R.nx;omega,by omega⟩ w8 F A1 D
     have U:Hid (r=(cU f t,0,f.next,.empty)):=by
      show r=_
      rw[jr.out];unfold kR;rw[if_neg W]
     clear W;go_wp2_with fail;refine fz.mono ?_;rintro e y ⟨rfl,⟨⟨A2,sq,BA⟩,xr⟩⟩;obtain⟨pz,z,C,_⟩:=qx.out y xr;have ul:∃a n c,A2.tv=.slice a n c:=by rw[BA];exact uj
     have mm:=dS sq.v ul;have V:=dC A2 (cU f t);have Z:=sq.box;obtain⟨X2,gp⟩:=eZ (aL A2 (cU f t));rw[gp]at mm V Z;clear fz xr;go_upto_region 12 with fail
     refine wp_region_list ?_;refine wpList_plain rfl (fun K2 g=>?_);refine cR _ rfl F Z rfl V ?_;refine g _ _ ?_;clear g K2;simp only[Act.put,sB,sZ,sS];refine wpList_plain rfl (fun K2 g=>?_);go_simp;refine g _ _ ?_;clear g K2;refine wpList_plain rfl (fun K2 g=>?_);go_simp;refine g _ _ ?_;clear g K2;refine wpList_plain rfl (fun K2 g=>?_);go_simp;refine g _ _ ?_;clear g K2;refine wpList_plain rfl (fun K2 g=>?_);refine aK _ _ _ rfl B4 z rfl rfl V (by rw[V];kernel_rfl) mm fun wa O p=>?_;refine g _ _ ?_;clear g K2;simp only[Act.put,sB,sZ,sS];refine wpList_plain rfl (fun K2 g=>?_);refine aK (vs:=#[.int .i64 0,.int .i64 f.next,.string .empty]) _ _ _ rfl B5 (C.ae p B) rfl rfl rfl (by kernel_rfl) (by simp[Value.oneCell']) fun P jb s=>?_;refine g _ _ ?_;clear g K2;refine wpList_nil ?_;simp only[Act.put,sB,sZ,sS];have x:Frm (fun k=>k=B4\/k=B5) y P:=(p.wide fun _ _ q=>.inl q).trans (s.wide fun _ _ q=>.inr q);have E:=O.ae s (Ne.symm B);have pp:=aA (show OpP w r (.returned (.tuple #[.agg X2,.agg #[.int .i64 0,.int .i64 f.next,.string ByteArray.empty]])) P by rw[U.out,<-gp];exact OpP.good sq ul z C x (ru.out _ _ pz x) (0,f.next,ByteArray.empty));clear O p s x;go_wp2;refine bodyPost_ret (v:=.tuple #[.agg X2,.agg #[.int .i64 0,.int .i64 f.next,.string .empty]]) (bE E jb V rfl rfl rfl) rfl ?_;exact pp.out
   by_cases e4:kind=4
   ·subst e4
    have jr:Hid (r=mH f t):=by
     show r=_
     rw[<-Hr.out];unfold opM;rw[Bh];rfl
    clear zz Bh lz Hr xu bo;by_cases W:f.r.length=1
    ·have ll:=aFS (t:=t) W w8 F A1 D
     have U:Hid (r=(f,18,0,.empty)):=by
      show r=_
      rw[jr.out];unfold mH;rw[if_pos W]
     clear W;go_wp2_with fail;refine ll.mono ?_;rintro e y ⟨rfl,rfl⟩;clear ll;go_upto_region 15 with fail
     refine wp_region_list ?_;refine wpList_plain rfl (fun K2 g=>?_);refine cR _ rfl F j6 rfl H ?_;refine g _ _ ?_;clear g K2;simp only[Act.put,sB,sZ,sS];refine wpList_plain rfl (fun K2 g=>?_);go_simp;refine g _ _ ?_;clear g K2;refine wpList_plain rfl (fun K2 g=>?_);go_simp;refine g _ _ ?_;clear g K2;refine wpList_plain rfl (fun K2 g=>?_);go_simp;refine g _ _ ?_;clear g K2;refine wpList_plain rfl (fun K2 g=>?_);refine aK _ _ _ rfl B4 j rfl rfl H (by rw[H];kernel_rfl) nw fun wa O p=>?_;refine g _ _ ?_;clear g K2;simp only[Act.put,sB,sZ,sS];refine wpList_plain rfl (fun K2 g=>?_);refine aK (vs:=#[.int .i64 18,.int .i64 0,.string .empty]) _ _ _ rfl B5 (i.ae p B) rfl rfl rfl (by kernel_rfl) (by simp[Value.oneCell']) fun P jb s=>?_;refine g _ _ ?_;clear g K2;refine wpList_nil ?_;simp only[Act.put,sB,sZ,sS];have x:Frm (fun k=>k=B4\/k=B5) y P:=(p.wide fun _ _ q=>.inl q).trans (s.wide fun _ _ q=>.inr q);have E:=O.ae s (Ne.symm B);have pp:=aA (show OpP w r (.returned (.tuple #[.agg X1,.agg #[.int .i64 18,.int .i64 0,.string ByteArray.empty]])) P by rw[U.out,<-dm];exact OpP.good D uj j i x (ru.out _ _ S x) (18,0,ByteArray.empty));clear O p s x;go_wp2;refine bodyPost_ret (v:=.tuple #[.agg X1,.agg #[.int .i64 18,.int .i64 0,.string .empty]]) (bE E jb H rfl rfl rfl) rfl ?_;exact pp.out
    ·obtain⟨li,_,ws,BP,Ka,Fj,U0,U1,_,U2⟩:=nT R fi (by have:=R.ne;omega) hW.ok
     have U:Hid (r=((drop f t (hOf f t)).1,0,(drop f t (hOf f t)).2,.empty)):=by
      show r=_
      rw[jr.out];unfold mH;rw[if_neg W]
     have fz:=aCD (Inv.ej R) (Inv.ej li) fi (by have:=R.ne;omega) Ka (fun b d hd=>by rcases U2 b with e | e;rw[<-e];exact hd;rw[e]at hd;cases hd) BP Fj U0 U1 w8 F A1 D;rw[<-ws]at fz;obtain⟨dn,Uv⟩:=eZ ((drop f t (hOf f t)).2);obtain⟨dg,BO⟩:=eZ ((drop f t (hOf f t)).1);rw[Uv,BO]at fz U;clear W li ws BP Ka Fj U0 U1 U2 Uv BO;go_wp2_with fail;refine fz.mono ?_;rintro e y ⟨rfl,⟨⟨A2,sq,BA⟩,xr⟩⟩;obtain⟨pz,z,C,_⟩:=qx.out y xr;have ul:∃a n c,A2.tv=.slice a n c:=by rw[BA];exact uj
     have mm:=dS sq.v ul;have V:=dC A2 dg;have Z:=sq.box;obtain⟨X2,gp⟩:=eZ (aL A2 dg);rw[gp]at mm V Z;clear fz xr;go_upto_region 15 with fail
     refine wp_region_list ?_;refine wpList_plain rfl (fun K2 g=>?_);refine cR _ rfl F Z rfl V ?_;refine g _ _ ?_;clear g K2;simp only[Act.put,sB,sZ,sS];refine wpList_plain rfl (fun K2 g=>?_);go_simp;refine g _ _ ?_;clear g K2;refine wpList_plain rfl (fun K2 g=>?_);go_simp;refine g _ _ ?_;clear g K2;refine wpList_plain rfl (fun K2 g=>?_);go_simp;refine g _ _ ?_;clear g K2;refine wpList_plain rfl (fun K2 g=>?_);refine aK _ _ _ rfl B4 z rfl rfl V (by rw[V];kernel_rfl) mm fun wa O p=>?_;refine g _ _ ?_;clear g K2;simp only[Act.put,sB,sZ,sS];refine wpList_plain rfl (fun K2 g=>?_);refine aK (vs:=#[.int .i64 0,.int .i64 dn,.string .empty]) _ _ _ rfl B5 (C.ae p B) rfl rfl rfl (by kernel_rfl) (by simp[Value.oneCell']) fun P jb s=>?_;refine g _ _ ?_;clear g K2;refine wpList_nil ?_;simp only[Act.put,sB,sZ,sS];have x:Frm (fun k=>k=B4\/k=B5) y P:=(p.wide fun _ _ q=>.inl q).trans (s.wide fun _ _ q=>.inr q);have E:=O.ae s (Ne.symm B);have pp:=aA (show OpP w r (.returned (.tuple #[.agg X2,.agg #[.int .i64 0,.int .i64 dn,.string ByteArray.empty]])) P by rw[U.out,<-gp];exact OpP.good sq ul z C x (ru.out _ _ pz x) (0,dn,ByteArray.empty));clear O p s x;go_wp2;refine bodyPost_ret (v:=.tuple #[.agg X2,.agg #[.int .i64 0,.int .i64 dn,.string .empty]]) (bE E jb V rfl rfl rfl) rfl ?_;exact pp.out
   have c9:=pM R.ic fi hW.ok key w8 F A1 D;have Lq:¬(12:Int) <(key.size:Int):=fun q=>lz (.inl ⟨by omega,by omega⟩);by_cases e6:kind=6
   ·subst e6
    have jr:Hid (r=mI f t key):=by
     show r=_
     rw[<-Hr.out];unfold opM;rw[Bh];rfl
    clear zz Bh lz Hr xu bo qx;cases mj:Fo.find f.n (hOf f t) (aB f t) key with
    | none=>
     have U:Hid (r=(f,9,0,.empty)):=by show r=_;rw[jr.out];unfold mI;rw[mj]
     rw[mj]at c9;simp only[uP]at c9;clear mj;go_wp2_with fail;refine c9.mono ?_;rintro e y ⟨rfl,G⟩;clear c9;have i29:=l.of (G.block _ l.lt);have I:=m.of (G.block _ m.lt);have z:=j.of (G.block _ j.lt);have C:=i.of (G.block _ i.lt);have pz:=S.trans (G.mono S.size);have eo:=D.below G;have j69:=eo.box;rw[dm]at j69;have k09:y.cell? ⟨B3,0,none⟩=some (.int .i64 6):=I.c rfl;have k29:y.cell? ⟨B3,2,none⟩=some (.string key):=I.c rfl;have k39:y.cell? ⟨B3,3,none⟩=some (.string val):=I.c rfl;clear G J K L M l m j i;go_wp2;refine gG (d1:=121) (d2:=122) (c:=9) i29 N fh z rfl C rfl T rfl (fun _ _=>rfl) (fun _ _=>rfl) (fun _ _=>rfl) (fun _ _=>rfl) (by kernel_rfl) (fun _ _ _ _ h=>h) (fun w' X Y x=>?_);simp only[Act.put,sB,sZ,sS];have Ca:=aA (i5.out w' (ru.out _ _ pz x) 9);clear x;go_wp2;refine bodyPost_ret (v:=.tuple #[.agg XS,.agg #[.int .i64 9,.int .i64 0,.string .empty]]) (bE X Y N rfl rfl rfl) rfl ?_;rw[U.out];exact Ca.out
    | some v=>
     have U:Hid (r=(f,0,0,v)):=by show r=_;rw[jr.out];unfold mI;rw[mj]
     rw[mj]at c9;simp only[uP]at c9;clear mj;go_wp2_with fail;refine c9.mono ?_;rintro e y ⟨rfl,G⟩;clear c9;have i29:=l.of (G.block _ l.lt);have I:=m.of (G.block _ m.lt);have z:=j.of (G.block _ j.lt);have C:=i.of (G.block _ i.lt);have pz:=S.trans (G.mono S.size);have eo:=D.below G;have j69:=eo.box;rw[dm]at j69;have k09:y.cell? ⟨B3,0,none⟩=some (.int .i64 6):=I.c rfl;have k29:y.cell? ⟨B3,2,none⟩=some (.string key):=I.c rfl;have k39:y.cell? ⟨B3,3,none⟩=some (.string val):=I.c rfl;clear G J K L M l m j i;go_upto_region 28 with fail
     refine wp_region_list ?_;refine wpList_plain rfl (fun K2 g=>?_);refine cR _ rfl F j69 rfl H ?_;refine g _ _ ?_;clear g K2;simp only[Act.put,sB,sZ,sS];refine wpList_plain rfl (fun K2 g=>?_);go_simp;refine g _ _ ?_;clear g K2;refine wpList_plain rfl (fun K2 g=>?_);go_simp;refine g _ _ ?_;clear g K2;refine wpList_plain rfl (fun K2 g=>?_);refine aK _ _ _ rfl B4 z rfl rfl H (by rw[H];kernel_rfl) nw fun wa O p=>?_;refine g _ _ ?_;clear g K2;simp only[Act.put,sB,sZ,sS];refine wpList_plain rfl (fun K2 g=>?_);refine aK (vs:=#[.int .i64 0,.int .i64 0,.string v]) _ _ _ rfl B5 (C.ae p B) rfl rfl rfl (by kernel_rfl) (by simp[Value.oneCell']) fun P jb s=>?_;refine g _ _ ?_;clear g K2;refine wpList_nil ?_;simp only[Act.put,sB,sZ,sS];have x:Frm (fun k=>k=B4\/k=B5) y P:=(p.wide fun _ _ q=>.inl q).trans (s.wide fun _ _ q=>.inr q);have E:=O.ae s (Ne.symm B);have pp:=aA (show OpP w r (.returned (.tuple #[.agg X1,.agg #[.int .i64 0,.int .i64 0,.string v]])) P by rw[U.out,<-dm];exact OpP.good eo uj z C x (ru.out _ _ pz x) (0,0,v));clear O p s x;go_wp2;refine bodyPost_ret (v:=.tuple #[.agg X1,.agg #[.int .i64 0,.int .i64 0,.string v]]) (bE E jb H rfl rfl rfl) rfl ?_;exact pp.out
   ·exact absurd (by rw[Bh]) (Vk.out (by omega))
theorem aKZ(W:World):(Instr.build 31 #[]).run Tryz.prog W=.ok (.agg #[.int .i64 0,.int .i64 0,.string .empty]) W:=by kernel_rfl
theorem aJD(E:Inv f)(hV:VE f)(tree:Int)(key val:ByteArray)(Ec:(aT f 1 tree key val).2=0)(w:World)(A:SA)(hS:SpV w A f)(jl:∃a n c,A.tv=.slice a n c):
  Calls Tryz.prog 33 #[.agg (aL A f),.agg #[.int .i64 1,.int .i64 tree,.string key,.string val]] w (OpP w (opM f 1 tree key val)):=by
 have q0:¬inB 1 1 6=false:=by decide
 have Dz:=aA Ec;clear Ec;have Z:=dC A f;have fh:=dS hS jl;have i5:=aA fun(w':World) (hb:Bl w w') (c:Int)=>OpP.bad hS jl hb c;obtain⟨XS,wi⟩:=eZ (aL A f);rw[wi]at Z fh i5;rw[wi];have LZ:=aA wi;clear wi;obtain⟨r,Hr⟩:∃r,Hid (opM f 1 tree key val=r):=⟨_,rfl⟩;rw[Hr.out];obtain⟨w1,ci⟩:=eZ (w.alloc (.cells XS 58));obtain⟨w2,dh⟩:=eZ (w1.alloc (.cells #[.int .i64 1,.int .i64 tree,.string key,.string val] 33));obtain⟨w3,du⟩:=eZ (w2.alloc (.cells #[.int .i64 0,.slice none 0 0,.slice none 0 0,.int .i64 0,.int .i64 0,.slice none 0 0,.slice none 0 0] 58));obtain⟨X,cx⟩:=eZ (w3.alloc (.cells #[.int .i64 0,.int .i64 0,.string {data:=#[]}] 31));obtain⟨B2,di⟩:=eZ (w.heap.size);obtain⟨B3,fv⟩:=eZ (w1.heap.size);obtain⟨B4,d5⟩:=eZ (w2.heap.size);obtain⟨B5,sm⟩:=eZ (w3.heap.size);have nz:∀(u:World) (o:Obj) (v:World),u.alloc o=v->Bl u v/\v.heap.size=u.heap.size+1:=fun u o v e=>by rw[<-e];exact⟨(bQ _ u).alloc (nR _) _,by simp⟩
 have od:∀(u:World) (cs:Array Value) (ty:TypeId) (v:World),u.alloc (.cells cs ty)=v->IsC v u.heap.size cs ty:=fun u cs ty v e=>by rw[<-e];exact IsC.new _ _ _
 obtain⟨b1,s1⟩:=nz _ _ _ ci;obtain⟨b2,s2⟩:=nz _ _ _ dh;obtain⟨b3,s3⟩:=nz _ _ _ du;obtain⟨b4,s4⟩:=nz _ _ _ cx;have n2:=od _ _ _ _ ci;have n3:=od _ _ _ _ dh;have n4:=od _ _ _ _ du;have n5:=od _ _ _ _ cx;rw[di]at n2;rw[fv]at n3;rw[d5]at n4;rw[sm]at n5;have P:Bl w3 X:=b4;have O:Bl w2 X:=b3.trans (P.mono (by omega));have N:Bl w1 X:=b2.trans (O.mono (by omega));have x:Bl w X:=b1.trans (N.mono (by omega));have i2:IsC X B2 XS 58:=n2.of (N.block _ n2.lt);have i3:=n3.of (O.block _ n3.lt);have i4:=n4.of (P.block _ n4.lt);have m24:B2≠B4:=by omega
 have k0:X.cell? ⟨B3,0,none⟩=some (.int .i64 1):=i3.c rfl;have HD:=aA (aI s1 (aI s2 (aI s3 (aI s4 (aI di (aI fv (aI d5 sm)))))));have AT:Hid (w.heap.size<=B4/\w.heap.size<=B5):=(show _/\_ from by omega);have ru:Hid (∀(wz w':World),Bl w wz->Frm (fun k=>k=B4\/k=B5) wz w'->Bl w w'):=fun wz w' hb hF=>hb.trans (hF.below hb.size fun k e=>by have:=AT.out;rcases e with e | e<;>omega);clear nz od b1 b2 b3 b4 n2 n3 n4 P O N s1 s2 s3 s4;go_enter Tryz.func33,Tryz.ntmps33;have D7:=aA q0;have qr:=mW X A (hS.below x) (by have:=E.ic.n8;omega) E.ic.al E.ne (by have:=E.bq;omega) jl;unfold stV at qr;rw[LZ.out]at qr;have Dj:=aA qr;clear q0 qr;go_upto_region 3 with fail
 refine wp_region_list ?_;refine wpList_plain rfl (fun K2 b=>?_);refine cR _ rfl B2 i2 rfl Z ?_;refine b _ _ ?_;clear b K2;simp only[Act.put,sB,sZ,sS];refine wpList_plain rfl (fun K2 b=>?_);go_simp;refine Dj.out.mono ?_;rintro e w5 ⟨A1,rfl,cg,FG,xu,bo,ef⟩;refine b _ _ ?_;clear b K2 Dj;have uj:∃a n c,A1.tv=.slice a n c:=by rw[FG];exact jl
 have nw:=dS cg uj;have fy:=dC A1 f;obtain⟨X1,dm⟩:=eZ (aL A1 f);rw[dm]at nw fy;rw[dm];obtain⟨w6,sg⟩:=eZ (w5.alloc (.cells #[.int .i64 0,.slice none 0 0,.slice none 0 0,.int .i64 0,.int .i64 0,.slice none 0 0,.slice none 0 0] 58));obtain⟨s,r9⟩:=eZ (w5.heap.size);have i6:=iNw sg r9;have kh:=bAl sg;refine wpList_plain rfl (fun K2 b=>?_);go_simp;refine b _ _ ?_;clear b K2;refine wpList_plain rfl (fun K2 b=>?_);refine aK _ _ _ rfl s i6 rfl rfl fy (by rw[fy];kernel_rfl) nw fun Y j6 i=>?_;have vn:Bl w5 Y:=kh.trans (i.below kh.size fun k e=>by omega);have kz:=ef.trans (vn.mono ef.size);have kg:=x.trans (kz.mono x.size);have R:=i2.of (kz.block _ i2.lt);have j:=i3.of (kz.block _ i3.lt);have G:=i4.of (kz.block _ i4.lt);have I:=n5.of (kz.block _ n5.lt);have j8:Sp Y s A1 f:=⟨by rw[dm];exact j6,cg.below vn⟩;have MF:Hid (w.heap.size<=s/\B2<s/\B4<s):=(show _/\_/\_ from by have:=x.size;have:=ef.size;have:=i2.lt;have:=i4.lt;omega);have k0':Y.cell? ⟨B3,0,none⟩=some (.int .i64 1):=j.c rfl;have k1':Y.cell? ⟨B3,1,none⟩=some (.int .i64 tree):=j.c rfl;have k2':Y.cell? ⟨B3,2,none⟩=some (.string key):=j.c rfl;have k3':Y.cell? ⟨B3,3,none⟩=some (.string val):=j.c rfl;refine b _ _ ?_;clear b K2 i2 i3 i4 n5 k0 i6 sg ci dh du cx kh i vn kz di fv d5 sm r9 HD;refine wpList_nil ?_;simp only[Act.put,sB,sZ,sS];have sx:=lI Y s A1 j8 (by have:=E.bq;omega) tree;go_wp2_with fail;refine sx.mono ?_;rintro e w8 ⟨rfl,rfl⟩;clear sx;cases ke:atT f tree with
 | none=>
  have ha:aT f 1 tree key val=(0,8):=by unfold aT;rw[if_neg D7.out,if_neg (by decide),ke]
  have:=Dz.out
  rw[ha]at this;cases this
 | some t=>
  have fi:=(mO ke).1;have hp:plZ f tree=(t:Int):=by unfold plZ;rw[ke]
  have Dx:¬((t:Int)<0):=by omega
  have zz:aT f 1 tree key val=if(((1:Int)=1\/(1:Int)=2\/(1:Int)=6)/\12<key.size)\/((1:Int)=1/\10<val.size)then((0,4):Nat×Int)else(t,0):=by unfold aT;rw[if_neg D7.out,if_neg (by decide),ke]
  have lz:¬((((1:Int)=1\/(1:Int)=2\/(1:Int)=6)/\12<key.size)\/((1:Int)=1/\10<val.size)):=fun q=>by
   rw[if_pos q]at zz;have:=Dz.out;rw[zz]at this;cases this
  rw[if_neg lz]at zz;have Lq:¬(12:Int) <(key.size:Int):=fun q=>lz (.inl ⟨.inl rfl,by omega⟩);have Yx:¬(10:Int) <(val.size:Int):=fun q=>lz (.inr ⟨rfl,by omega⟩);rw[hp];obtain⟨hW,ed,_⟩:=E.hOf fi;have J:B5≠B4:=I.ab G (by decide);have c9:=pM E.ic fi hW.ok key w8 s A1 j8;have jr:Hid (r=kS f t key val):=by
   show r=_
   rw[<-Hr.out];unfold opM;rw[zz];rfl
  obtain⟨fo,Rl⟩:=eZ ((Fo.find f.n (hOf f t) (aB f t) key).isSome);obtain⟨gv,IB⟩:∃v,uP (Fo.find f.n (hOf f t) (aB f t) key)=.tuple #[.string v,.bool fo]:=by
   rw[<-Rl];cases Fo.find f.n (hOf f t) (aB f t) key with
   | none=>exact⟨_,rfl⟩
   | some v=>exact⟨_,rfl⟩
  rw[IB]at c9;have Vz:=aA Rl;clear zz lz Hr ke hp D7 IB Rl;go_wp2_with fail;refine c9.mono ?_;rintro e w9 ⟨rfl,Q⟩;clear c9;have S:=R.of (Q.block _ R.lt);have l:=j.of (Q.block _ j.lt);have T:=G.of (Q.block _ G.lt);have K:=I.of (Q.block _ I.lt);have pz:=kg.trans (Q.mono kg.size);have y:=j8.below Q;have j69:=y.box;rw[dm]at j69;have k09:w9.cell? ⟨B3,0,none⟩=some (.int .i64 1):=l.c rfl;have k29:w9.cell? ⟨B3,2,none⟩=some (.string key):=l.c rfl;have k39:w9.cell? ⟨B3,3,none⟩=some (.string val):=l.c rfl;clear Q k0' k1' k2' k3' R j G I;have qx:Hid (∀z,Frm (fun k=>k=s\/k=A1.ga\/k=A1.gr) w9 z->Bl w z/\IsC z B4 #[.int .i64 0,.slice none 0 0,.slice none 0 0,.int .i64 0,.int .i64 0,.slice none 0 0,.slice none 0 0] 58/\IsC z B5 #[.int .i64 0,.int .i64 0,.string {data:=#[]}] 31/\IsC z B2 XS 58/\IsC z B3 #[.int .i64 1,.int .i64 tree,.string key,.string val] 33):=fun z hF=>by
   have h6:=MF.out;have Nb:=lT x.size xu;have Ey:=lT x.size bo;refine⟨pz.trans (hF.below pz.size fun k e=>by rcases e with e | e | e<;>omega),T.ae hF ?_,K.ae hF ?_,S.ae hF ?_,l.ae hF ?_⟩
   ·rintro(e | e | e)
    ·omega
    ·exact T.ab y.v.aq.arr (by decide) e
    ·exact T.ab y.v.bo (by decide) e
   ·rintro(e | e | e)
    ·exact K.ab y.box (by decide) e
    ·exact K.ab y.v.aq.arr (by decide) e
    ·exact K.ab y.v.bo (by decide) e
   ·rintro(e | e | e)
    ·omega
    ·exact S.ab y.v.aq.arr (by decide) e
    ·exact S.ab y.v.bo (by decide) e
   ·rintro(e | e | e)
    ·exact l.ab y.box (by decide) e
    ·exact l.ab y.v.aq.arr (by decide) e
    ·exact l.ab y.v.bo (by decide) e
  have cw:=aFU (key:=key) (val:=val) hW hV E.bq w9 s A1 y;clear xu bo;go_wp2_with fail;refine cw.mono ?_;intro e z hz;have Mf:Frm (fun k=>k=s\/k=A1.ga\/k=A1.gr) w9 z:=hz.ae.wide fun _ _ q=>.inr q;obtain⟨CA,H,L,F,i3k⟩:=qx.out z Mf;have k0k:z.cell? ⟨B3,0,none⟩=some (.int .i64 1):=i3k.c rfl;clear qx cw Mf k09 k29 k39;cases d:put f t (hOf f t) key val with
  | none=>
   obtain rfl:=hz.no (by rw[d];rfl);have W:Hid (r=(f,7,0,.empty)):=by show r=_;rw[jr.out];unfold kS;rw[d]
   clear hz d;go_wp2;refine gG (d1:=112) (d2:=113) (c:=7) F Z fh H rfl L rfl m24 rfl (fun _ _=>rfl) (fun _ _=>rfl) (fun _ _=>rfl) (fun _ _=>rfl) (by kernel_rfl) (fun _ _ _ _ h=>h) (fun w' j4 j5 i=>?_);simp only[Act.put,sB,sZ,sS];have Ca:=aA (i5.out w' (ru.out _ _ CA i) 7);clear i;go_wp2;refine bodyPost_ret (v:=.tuple #[.agg XS,.agg #[.int .i64 7,.int .i64 0,.string .empty]]) (bE j4 j5 Z rfl rfl rfl) rfl ?_;rw[W.out];exact Ca.out
  | some gt=>
   obtain⟨g,th⟩:=gt;obtain⟨rfl,A2,sq,Dl⟩:=hz.yes g (by rw[d];rfl);obtain⟨H',g1,g2,g3⟩:=xQ hW ed d;have dq:=qB (Inv.ej (E.after g1 g2 g3)) z s A2 sq;have Ys:th=fo:=(aGE hW d).trans Vz.out;subst Ys;have M:Hid (r=if qG g=true then(g,0,if th then 1 else 0,.empty)else(f,7,0,.empty)):=by
    show r=_
    rw[jr.out];unfold kS;rw[d];unfold qG;by_cases q:fN g.c g.m<2*fO g.c.length
    ·rw[if_neg (by simp;omega)];simp only;rw[if_pos q]
    ·rw[if_pos (by simp;omega)];simp only;rw[if_neg q]
   clear hz d g1 g2 g3;obtain⟨rm,E7⟩:=eZ (qG g);rw[E7]at dq M;clear E7;go_wp2_with fail;refine dq.mono ?_;rintro e wr ⟨rfl,qp⟩;have i2r:=F.of (qp.block _ F.lt);have B:=H.of (qp.block _ H.lt);have C:=L.of (qp.block _ L.lt);have DL:=CA.trans (qp.mono CA.size);have Ac:=sq.below qp;have ul:∃a n c,A2.tv=.slice a n c:=by rw[Dl.tv];exact uj
   have mm:=dS Ac.v ul;have D:=dC A2 g;have U:=Ac.box;obtain⟨X2,gp⟩:=eZ (aL A2 g);rw[gp]at mm D U;clear dq qp F H L i3k k0k;have RK:=qY;have Xb:=aKZ;cases rm with
   | false=>
    have W:Hid (r=(f,7,0,.empty)):=M.out;clear M;go_wp2;refine gG (d1:=112) (d2:=113) (c:=7) i2r Z fh B rfl C rfl m24 rfl (fun _ _=>rfl) (fun _ _=>rfl) (fun _ _=>rfl) (fun _ _=>rfl) (by kernel_rfl) (fun _ _ _ _ h=>h) (fun w' j4 j5 i=>?_);simp only[Act.put,sB,sZ,sS];have Ca:=aA (i5.out w' (ru.out _ _ DL i) 7);clear i;go_wp2;refine bodyPost_ret (v:=.tuple #[.agg XS,.agg #[.int .i64 7,.int .i64 0,.string .empty]]) (bE j4 j5 Z rfl rfl rfl) rfl ?_;rw[W.out];exact Ca.out
   | true=>
    cases th with
    | true=>
     have W:Hid (r=(g,0,1,.empty)):=M.out;clear M;go_upto_region 21 with fail
     refine wp_region_list ?_;refine wpList_plain rfl (fun K2 b=>?_);refine cR _ rfl s U rfl D ?_;refine b _ _ ?_;clear b K2;simp only[Act.put,sB,sZ,sS];refine wpList_plain rfl (fun K2 b=>?_);go_simp;refine b _ _ ?_;clear b K2;refine wpList_plain rfl (fun K2 b=>?_);refine aK _ _ _ rfl B4 B rfl rfl D (by rw[D];kernel_rfl) mm fun wa ja m=>?_;refine b _ _ ?_;clear b K2;simp only[Act.put,sB,sZ,sS];refine wpList_plain rfl (fun K2 b=>?_);refine aK (vs:=#[.int .i64 0,.int .i64 1,.string .empty]) _ _ _ rfl B5 (C.ae m J) rfl rfl rfl (by kernel_rfl) (by simp[Value.oneCell']) fun wb jb p=>?_;refine b _ _ ?_;clear b K2;refine wpList_nil ?_;simp only[Act.put,sB,sZ,sS];have i:Frm (fun k=>k=B4\/k=B5) wr wb:=(m.wide fun _ _ q=>.inl q).trans (p.wide fun _ _ q=>.inr q);have V:=ja.ae p (Ne.symm J);have pp:=aA (show OpP w r (.returned (.tuple #[.agg X2,.agg #[.int .i64 0,.int .i64 1,.string ByteArray.empty]])) wb by rw[W.out,<-gp];exact OpP.good Ac ul B C i (ru.out _ _ DL i) (0,1,ByteArray.empty));clear ja m p i;go_wp2;refine bodyPost_ret (v:=.tuple #[.agg X2,.agg #[.int .i64 0,.int .i64 1,.string .empty]]) (bE V jb D rfl rfl rfl) rfl ?_;exact pp.out
    | false=>
     have W:Hid (r=(g,0,0,.empty)):=M.out;clear M;go_upto_region 22 with fail
     refine wp_region_list ?_;refine wpList_plain rfl (fun K2 b=>?_);refine cR _ rfl s U rfl D ?_;refine b _ _ ?_;clear b K2;simp only[Act.put,sB,sZ,sS];refine wpList_plain rfl (fun K2 b=>?_);go_simp;refine b _ _ ?_;clear b K2;refine wpList_plain rfl (fun K2 b=>?_);refine aK _ _ _ rfl B4 B rfl rfl D (by rw[D];kernel_rfl) mm fun wa ja m=>?_;refine b _ _ ?_;clear b K2;simp only[Act.put,sB,sZ,sS];refine wpList_plain rfl (fun K2 b=>?_);refine aK (vs:=#[.int .i64 0,.int .i64 0,.string .empty]) _ _ _ rfl B5 (C.ae m J) rfl rfl rfl (by kernel_rfl) (by simp[Value.oneCell']) fun wb jb p=>?_;refine b _ _ ?_;clear b K2;refine wpList_nil ?_;simp only[Act.put,sB,sZ,sS];have i:Frm (fun k=>k=B4\/k=B5) wr wb:=(m.wide fun _ _ q=>.inl q).trans (p.wide fun _ _ q=>.inr q);have V:=ja.ae p (Ne.symm J);have pp:=aA (show OpP w r (.returned (.tuple #[.agg X2,.agg #[.int .i64 0,.int .i64 0,.string ByteArray.empty]])) wb by rw[W.out,<-gp];exact OpP.good Ac ul B C i (ru.out _ _ DL i) (0,0,ByteArray.empty));clear ja m p i;go_wp2;refine bodyPost_ret (v:=.tuple #[.agg X2,.agg #[.int .i64 0,.int .i64 0,.string .empty]]) (bE V jb D rfl rfl rfl) rfl ?_;exact pp.out
theorem aJC(H:Inv f)(hV:VE f)(tree:Int)(key val:ByteArray)(Ec:(aT f 2 tree key val).2=0)(w:World)(A:SA)(hS:SpV w A f)(jl:∃a n c,A.tv=.slice a n c):
  Calls Tryz.prog 33 #[.agg (aL A f),.agg #[.int .i64 2,.int .i64 tree,.string key,.string val]] w (OpP w (opM f 2 tree key val)):=by
 have q0:¬inB 2 1 6=false:=by decide
 have Dz:=aA Ec;clear Ec;have M:=dC A f;have fh:=dS hS jl;have i5:=aA fun(w':World) (hb:Bl w w') (c:Int)=>OpP.bad hS jl hb c;obtain⟨XS,wi⟩:=eZ (aL A f);rw[wi]at M fh i5;rw[wi];have LZ:=aA wi;clear wi;obtain⟨r,Hr⟩:∃r,Hid (opM f 2 tree key val=r):=⟨_,rfl⟩;rw[Hr.out];obtain⟨w1,ci⟩:=eZ (w.alloc (.cells XS 58));obtain⟨w2,dh⟩:=eZ (w1.alloc (.cells #[.int .i64 2,.int .i64 tree,.string key,.string val] 33));obtain⟨w3,du⟩:=eZ (w2.alloc (.cells #[.int .i64 0,.slice none 0 0,.slice none 0 0,.int .i64 0,.int .i64 0,.slice none 0 0,.slice none 0 0] 58));obtain⟨Y,cx⟩:=eZ (w3.alloc (.cells #[.int .i64 0,.int .i64 0,.string {data:=#[]}] 31));obtain⟨B2,di⟩:=eZ (w.heap.size);obtain⟨B3,fv⟩:=eZ (w1.heap.size);obtain⟨B4,d5⟩:=eZ (w2.heap.size);obtain⟨B5,sm⟩:=eZ (w3.heap.size);have nz:∀(u:World) (o:Obj) (v:World),u.alloc o=v->Bl u v/\v.heap.size=u.heap.size+1:=fun u o v e=>by rw[<-e];exact⟨(bQ _ u).alloc (nR _) _,by simp⟩
 have od:∀(u:World) (cs:Array Value) (ty:TypeId) (v:World),u.alloc (.cells cs ty)=v->IsC v u.heap.size cs ty:=fun u cs ty v e=>by rw[<-e];exact IsC.new _ _ _
 obtain⟨b1,s1⟩:=nz _ _ _ ci;obtain⟨b2,s2⟩:=nz _ _ _ dh;obtain⟨b3,s3⟩:=nz _ _ _ du;obtain⟨b4,s4⟩:=nz _ _ _ cx;have n2:=od _ _ _ _ ci;have n3:=od _ _ _ _ dh;have n4:=od _ _ _ _ du;have n5:=od _ _ _ _ cx;rw[di]at n2;rw[fv]at n3;rw[d5]at n4;rw[sm]at n5;have Q:Bl w3 Y:=b4;have P:Bl w2 Y:=b3.trans (Q.mono (by omega));have O:Bl w1 Y:=b2.trans (P.mono (by omega));have y:Bl w Y:=b1.trans (O.mono (by omega));have i2:IsC Y B2 XS 58:=n2.of (O.block _ n2.lt);have i3:=n3.of (P.block _ n3.lt);have i4:=n4.of (Q.block _ n4.lt);have W:B2≠B4:=by omega
 have k0:Y.cell? ⟨B3,0,none⟩=some (.int .i64 2):=i3.c rfl;have HD:=aA (aI s1 (aI s2 (aI s3 (aI s4 (aI di (aI fv (aI d5 sm)))))));have AT:Hid (w.heap.size<=B4/\w.heap.size<=B5):=(show _/\_ from by omega);have ru:Hid (∀(wz w':World),Bl w wz->Frm (fun k=>k=B4\/k=B5) wz w'->Bl w w'):=fun wz w' hb hF=>hb.trans (hF.below hb.size fun k e=>by have:=AT.out;rcases e with e | e<;>omega);clear nz od b1 b2 b3 b4 n2 n3 n4 Q P O s1 s2 s3 s4;go_enter Tryz.func33,Tryz.ntmps33;have D7:=aA q0;have qr:=mW Y A (hS.below y) (by have:=H.ic.n8;omega) H.ic.al H.ne (by have:=H.bq;omega) jl;unfold stV at qr;rw[LZ.out]at qr;have Dj:=aA qr;clear q0 qr;go_upto_region 3 with fail
 refine wp_region_list ?_;refine wpList_plain rfl (fun K2 b=>?_);refine cR _ rfl B2 i2 rfl M ?_;refine b _ _ ?_;clear b K2;simp only[Act.put,sB,sZ,sS];refine wpList_plain rfl (fun K2 b=>?_);go_simp;refine Dj.out.mono ?_;rintro e w5 ⟨A1,rfl,cg,FG,xu,bo,ef⟩;refine b _ _ ?_;clear b K2 Dj;have uj:∃a n c,A1.tv=.slice a n c:=by rw[FG];exact jl
 have nw:=dS cg uj;have fy:=dC A1 f;obtain⟨X1,dm⟩:=eZ (aL A1 f);rw[dm]at nw fy;rw[dm];obtain⟨w6,sg⟩:=eZ (w5.alloc (.cells #[.int .i64 0,.slice none 0 0,.slice none 0 0,.int .i64 0,.int .i64 0,.slice none 0 0,.slice none 0 0] 58));obtain⟨C,r9⟩:=eZ (w5.heap.size);have i6:=iNw sg r9;have kh:=bAl sg;refine wpList_plain rfl (fun K2 b=>?_);go_simp;refine b _ _ ?_;clear b K2;refine wpList_plain rfl (fun K2 b=>?_);refine aK _ _ _ rfl C i6 rfl rfl fy (by rw[fy];kernel_rfl) nw fun Z j6 p=>?_;have vn:Bl w5 Z:=kh.trans (p.below kh.size fun k e=>by omega);have kz:=ef.trans (vn.mono ef.size);have kg:=y.trans (kz.mono y.size);have z:=i2.of (kz.block _ i2.lt);have i:=i3.of (kz.block _ i3.lt);have m:=i4.of (kz.block _ i4.lt);have s:=n5.of (kz.block _ n5.lt);have j8:Sp Z C A1 f:=⟨by rw[dm];exact j6,cg.below vn⟩;have MF:Hid (w.heap.size<=C/\B2<C/\B4<C):=(show _/\_/\_ from by have:=y.size;have:=ef.size;have:=i2.lt;have:=i4.lt;omega);have k0':Z.cell? ⟨B3,0,none⟩=some (.int .i64 2):=i.c rfl;have k1':Z.cell? ⟨B3,1,none⟩=some (.int .i64 tree):=i.c rfl;have k2':Z.cell? ⟨B3,2,none⟩=some (.string key):=i.c rfl;have k3':Z.cell? ⟨B3,3,none⟩=some (.string val):=i.c rfl;refine b _ _ ?_;clear b K2 i2 i3 i4 n5 k0 i6 sg ci dh du cx kh p vn kz di fv d5 sm r9 HD;refine wpList_nil ?_;simp only[Act.put,sB,sZ,sS];have sx:=lI Z C A1 j8 (by have:=H.bq;omega) tree;go_wp2_with fail;refine sx.mono ?_;rintro e w8 ⟨rfl,rfl⟩;clear sx;cases ke:atT f tree with
 | none=>
  have ha:aT f 2 tree key val=(0,8):=by unfold aT;rw[if_neg D7.out,if_neg (by decide),ke]
  have:=Dz.out
  rw[ha]at this;cases this
 | some t=>
  have fi:=(mO ke).1;have hp:plZ f tree=(t:Int):=by unfold plZ;rw[ke]
  have Dx:¬((t:Int)<0):=by omega
  have zz:aT f 2 tree key val=if(((2:Int)=1\/(2:Int)=2\/(2:Int)=6)/\12<key.size)\/((2:Int)=1/\10<val.size)then((0,4):Nat×Int)else(t,0):=by unfold aT;rw[if_neg D7.out,if_neg (by decide),ke]
  have lz:¬((((2:Int)=1\/(2:Int)=2\/(2:Int)=6)/\12<key.size)\/((2:Int)=1/\10<val.size)):=fun q=>by
   rw[if_pos q]at zz;have:=Dz.out;rw[zz]at this;cases this
  rw[if_neg lz]at zz;have Lq:¬(12:Int) <(key.size:Int):=fun q=>lz (.inl ⟨.inr (.inl rfl),by omega⟩);rw[hp];obtain⟨hW,ed,_⟩:=H.hOf fi;have n54:B5≠B4:=s.ab m (by decide);have N:=pM H.ic fi hW.ok key w8 C A1 j8;have jr:Hid (r=kX f t key):=by
   show r=_
   rw[<-Hr.out];unfold opM;rw[zz];rfl
  clear zz lz Hr ke hp D7;cases K:Fo.find f.n (hOf f t) (aB f t) key with
  | none=>
   have V:Hid (r=(f,9,0,.empty)):=by show r=_;rw[jr.out];unfold kX;rw[K]
   rw[K]at N;simp only[uP]at N;clear K;go_wp2_with fail;refine N.mono ?_;rintro e G ⟨rfl,j⟩;clear N;have D:=z.of (j.block _ z.lt);have d:=i.of (j.block _ i.lt);have E:=m.of (j.block _ m.lt);have B:=s.of (j.block _ s.lt);have pz:=kg.trans (j.mono kg.size);have x:=j8.below j;have S:=x.box;rw[dm]at S;have k09:G.cell? ⟨B3,0,none⟩=some (.int .i64 2):=d.c rfl;have k29:G.cell? ⟨B3,2,none⟩=some (.string key):=d.c rfl;have k39:G.cell? ⟨B3,3,none⟩=some (.string val):=d.c rfl;clear j k0' k1' k2' k3' z i m s;go_wp2;refine gG (d1:=121) (d2:=122) (c:=9) D M fh E rfl B rfl W rfl (fun _ _=>rfl) (fun _ _=>rfl) (fun _ _=>rfl) (fun _ _=>rfl) (by kernel_rfl) (fun _ _ _ _ h=>h) (fun w' j4 j5 p=>?_);simp only[Act.put,sB,sZ,sS];have Ca:=aA (i5.out w' (ru.out _ _ pz p) 9);clear p;go_wp2;refine bodyPost_ret (v:=.tuple #[.agg XS,.agg #[.int .i64 9,.int .i64 0,.string .empty]]) (bE j4 j5 M rfl rfl rfl) rfl ?_;rw[V.out];exact Ca.out
  | some v=>
   have hm:=jQ hW.ok K;rw[K]at N;simp only[uP]at N;go_wp2_with fail;refine N.mono ?_;rintro e G ⟨rfl,j⟩;clear N;have D:=z.of (j.block _ z.lt);have d:=i.of (j.block _ i.lt);have E:=m.of (j.block _ m.lt);have B:=s.of (j.block _ s.lt);have pz:=kg.trans (j.mono kg.size);have x:=j8.below j;have S:=x.box;rw[dm]at S;have k09:G.cell? ⟨B3,0,none⟩=some (.int .i64 2):=d.c rfl;have k29:G.cell? ⟨B3,2,none⟩=some (.string key):=d.c rfl;have k39:G.cell? ⟨B3,3,none⟩=some (.string val):=d.c rfl;clear j k0' k1' k2' k3' z i m s;have qx:Hid (∀F,Frm (fun k=>k=C\/k=A1.ga\/k=A1.gr) G F->Bl w F/\IsC F B4 #[.int .i64 0,.slice none 0 0,.slice none 0 0,.int .i64 0,.int .i64 0,.slice none 0 0,.slice none 0 0] 58/\IsC F B5 #[.int .i64 0,.int .i64 0,.string {data:=#[]}] 31/\IsC F B2 XS 58/\IsC F B3 #[.int .i64 2,.int .i64 tree,.string key,.string val] 33):=fun F hF=>by
    have h6:=MF.out;have Nb:=lT y.size xu;have Ey:=lT y.size bo;refine⟨pz.trans (hF.below pz.size fun k e=>by rcases e with e | e | e<;>omega),E.ae hF ?_,B.ae hF ?_,D.ae hF ?_,d.ae hF ?_⟩
    ·rintro(e | e | e)
     ·omega
     ·exact E.ab x.v.aq.arr (by decide) e
     ·exact E.ab x.v.bo (by decide) e
    ·rintro(e | e | e)
     ·exact B.ab x.box (by decide) e
     ·exact B.ab x.v.aq.arr (by decide) e
     ·exact B.ab x.v.bo (by decide) e
    ·rintro(e | e | e)
     ·omega
     ·exact D.ab x.v.aq.arr (by decide) e
     ·exact D.ab x.v.bo (by decide) e
    ·rintro(e | e | e)
     ·exact d.ab x.box (by decide) e
     ·exact d.ab x.v.aq.arr (by decide) e
     ·exact d.ab x.v.bo (by decide) e
   have cw:=xF hW hV H.bq ed hm G C A1 x;clear xu bo;go_wp2_with fail;refine cw.mono ?_;intro e F hz;have Mf:Frm (fun k=>k=C\/k=A1.ga\/k=A1.gr) G F:=hz.ae.wide fun _ _ q=>.inr q;obtain⟨CA,J,L,I,i3k⟩:=qx.out F Mf;clear qx cw Mf k09 k29 k39;cases l:bU f t (hOf f t) key with
   | none=>
    obtain rfl:=hz.no l;have V:Hid (r=(f,7,0,.empty)):=by show r=_;rw[jr.out];unfold kX;rw[K];simp only;rw[l]
    clear hz l K;go_wp2;refine gG (d1:=135) (d2:=136) (c:=7) I M fh J rfl L rfl W rfl (fun _ _=>rfl) (fun _ _=>rfl) (fun _ _=>rfl) (fun _ _=>rfl) (by kernel_rfl) (fun _ _ _ _ h=>h) (fun w' j4 j5 p=>?_);simp only[Act.put,sB,sZ,sS];have Ca:=aA (i5.out w' (ru.out _ _ CA p) 7);clear p;go_wp2;refine bodyPost_ret (v:=.tuple #[.agg XS,.agg #[.int .i64 7,.int .i64 0,.string .empty]]) (bE j4 j5 M rfl rfl rfl) rfl ?_;rw[V.out];exact Ca.out
   | some g=>
    obtain⟨rfl,A2,sq,Dl⟩:=hz.yes g l;obtain⟨H',g1,g2,g3⟩:=pQ hW ed hm l;have dq:=qB (Inv.ej (H.after g1 g2 g3)) F C A2 sq;have C2:Hid (r=if qG g=true then(g,0,0,v)else(f,7,0,.empty)):=by
     show r=_
     rw[jr.out];unfold kX;rw[K];simp only;rw[l];unfold qG;by_cases q:fN g.c g.m<2*fO g.c.length
     ·rw[if_neg (by simp;omega)];simp only;rw[if_pos q]
     ·rw[if_pos (by simp;omega)];simp only;rw[if_neg q]
    clear hz l g1 g2 g3 K;obtain⟨rm,E7⟩:=eZ (qG g);rw[E7]at dq C2;clear E7;go_wp2_with fail;refine dq.mono ?_;rintro e wr ⟨rfl,qp⟩;have i2r:=I.of (qp.block _ I.lt);have R:=J.of (qp.block _ J.lt);have X:=L.of (qp.block _ L.lt);have DL:=CA.trans (qp.mono CA.size);have Ac:=sq.below qp;have ul:∃a n c,A2.tv=.slice a n c:=by rw[Dl.tv];exact uj
    have mm:=dS Ac.v ul;have et:=dC A2 g;have j62:=Ac.box;obtain⟨X2,gp⟩:=eZ (aL A2 g);rw[gp]at mm et j62;clear dq qp I J L i3k;have RK:=qZ;cases rm with
    | false=>
     have V:Hid (r=(f,7,0,.empty)):=C2.out;clear C2;go_wp2;refine gG (d1:=135) (d2:=136) (c:=7) i2r M fh R rfl X rfl W rfl (fun _ _=>rfl) (fun _ _=>rfl) (fun _ _=>rfl) (fun _ _=>rfl) (by kernel_rfl) (fun _ _ _ _ h=>h) (fun w' j4 j5 p=>?_);simp only[Act.put,sB,sZ,sS];have Ca:=aA (i5.out w' (ru.out _ _ DL p) 7);clear p;go_wp2;refine bodyPost_ret (v:=.tuple #[.agg XS,.agg #[.int .i64 7,.int .i64 0,.string .empty]]) (bE j4 j5 M rfl rfl rfl) rfl ?_;rw[V.out];exact Ca.out
    | true=>
     have V:Hid (r=(g,0,0,v)):=C2.out;clear C2;go_upto_region 28 with fail
     refine wp_region_list ?_;refine wpList_plain rfl (fun K2 b=>?_);refine cR _ rfl C j62 rfl et ?_;refine b _ _ ?_;clear b K2;simp only[Act.put,sB,sZ,sS];refine wpList_plain rfl (fun K2 b=>?_);go_simp;refine b _ _ ?_;clear b K2;refine wpList_plain rfl (fun K2 b=>?_);go_simp;refine b _ _ ?_;clear b K2;refine wpList_plain rfl (fun K2 b=>?_);refine aK _ _ _ rfl B4 R rfl rfl et (by rw[et];kernel_rfl) mm fun wa ja T=>?_;refine b _ _ ?_;clear b K2;simp only[Act.put,sB,sZ,sS];refine wpList_plain rfl (fun K2 b=>?_);refine aK (vs:=#[.int .i64 0,.int .i64 0,.string v]) _ _ _ rfl B5 (X.ae T n54) rfl rfl rfl (by kernel_rfl) (by simp[Value.oneCell']) fun wb jb U=>?_;refine b _ _ ?_;clear b K2;refine wpList_nil ?_;simp only[Act.put,sB,sZ,sS];have p:Frm (fun k=>k=B4\/k=B5) wr wb:=(T.wide fun _ _ q=>.inl q).trans (U.wide fun _ _ q=>.inr q);have ja':=ja.ae U (Ne.symm n54);have pp:=aA (show OpP w r (.returned (.tuple #[.agg X2,.agg #[.int .i64 0,.int .i64 0,.string v]])) wb by rw[V.out,<-gp];exact OpP.good Ac ul R X p (ru.out _ _ DL p) (0,0,v));clear ja T U p;go_wp2;refine bodyPost_ret (v:=.tuple #[.agg X2,.agg #[.int .i64 0,.int .i64 0,.string v]]) (bE ja' jb et rfl rfl rfl) rfl ?_;exact pp.out
theorem aJB(b:Inv f)(i:VE f)(kind tree:Int)(key val:ByteArray)(h:kind≠5)(w:World)(A:SA)(d:SpV w A f)(e:∃a n c,A.tv=.slice a n c):
  Calls Tryz.prog 33 #[.agg (aL A f),.agg #[.int .i64 kind,.int .i64 tree,.string key,.string val]] w (OpP w (opM f kind tree key val)):=by
 by_cases g:(aT f kind tree key val).2=0
 ·by_cases j:kind=1
  ·subst j;exact aJD b i tree key val g w A d e
  ·by_cases k:kind=2
   ·subst k;exact aJC b i tree key val g w A d e
   ·exact vQ b kind tree key val h (fun q=>absurd q (by omega)) w A d e
 ·exact vQ b kind tree key val h (fun _=>g) w A d e
def aMS(p:VW):List Value:=[.int .i64 p.1,.int .i64 p.2.1,.int .i64 p.2.2.1,.int .i64 p.2.2.2.1,.int .i64 p.2.2.2.2]
def yW:Ely VW where
 cell:=aMS
 n:=5
 z:=(0,0,0,0,0)
 zv:=.agg #[.int .i64 0,.int .i64 0,.int .i64 0,.int .i64 0,.int .i64 0]
 t:=48
 s:=37
 by':=40
 hn:=fun _=>rfl
 hp:=by omega
 one:=fun a v hv=>by simp only[aMS,List.mem_cons,List.not_mem_nil,or_false]at hv;rcases hv with rfl | rfl | rfl | rfl | rfl<;>rfl
 hz:=by kernel_rfl
 us:=Tryz.underlying37
 hb:=by omega
 info:=pK (by kernel_rfl)
theorem Ely.Own.one{α:Type}{Y:Ely α}(base:Nat)(w:World)(e:α){cs:Array Value}(hc:cs=(Y.cell e).toArray)(a:base<=w.heap.size){g:Nat}(b:g=w.heap.size):Y.Own base (w.alloc (.cells cs Y.t)) (.slice (some ⟨g,0,none⟩) 1 1) [e]:=by
 subst b;subst hc;refine⟨some w.heap.size,[],rfl,⟨fun g e'=>?_,fun e=>(by cases e),by simp[maxLen]⟩,fun g e=>(by cases e;exact a)⟩;cases e';have:=IsC.new w (Y.cell e).toArray Y.t;simpa [Ely.row] using this
theorem aNC(W:World)(a b c d e:Int):(Instr.build 48 #[(0,.int .i64 a),(1,.int .i64 b),(2,.int .i64 c),(3,.int .i64 d),(4,.int .i64 e)]).run Tryz.prog W=.ok (.agg #[.int .i64 a,.int .i64 b,.int .i64 c,.int .i64 d,.int .i64 e]) W:=by kernel_rfl
theorem aKP(h:yW.Sl w u l)(j:0<l.length):∃g o c,u=.slice (some ⟨g,o,none⟩) l.length c/\g<w.heap.size/\∀(w':World) (i:Nat),(w'.heap[g]?=w.heap[g]?)->i<l.length->w'.cell? ⟨g,o+i*5,none⟩=some (.int .i64 (l.getD i yW.z).1)/\w'.cell? ⟨g,o+i*5+1,none⟩=some (.int .i64 (l.getD i yW.z).2.1)/\w'.cell? ⟨g,o+i*5+1+1,none⟩=some (.int .i64 (l.getD i yW.z).2.2.1)/\w'.cell? ⟨g,o+i*5+1+1+1,none⟩=some (.int .i64 (l.getD i yW.z).2.2.2.1)/\w'.cell? ⟨g,o+i*5+1+1+1+1,none⟩=some (.int .i64 (l.getD i yW.z).2.2.2.2):=by
 obtain⟨g,o,c,rfl,f,a⟩:=h.at j;refine⟨g,o,c,rfl,f,fun w' i e b=>?_⟩;have d:∀k,w'.cell? ⟨g,k,none⟩=w.cell? ⟨g,k,none⟩:=fun k=>by simp[World.cell?,e]
 exact⟨(d _).trans (a i 0 b (by decide)),(d _).trans (a i 1 b (by decide)),(d _).trans (a i 2 b (by decide)),(d _).trans (a i 3 b (by decide)),(d _).trans (a i 4 b (by decide))⟩
structure InW(w2 w6:World)(B W5:Nat)(l:List VW)(u:Value)(wr:World):Prop where
 own:∃a junk,u=.slice (adr a) l.length (l.length+junk.length)/\yW.Rw wr a l junk/\∀g,a=some g->B<=g/\(g<W5\/w6.heap.size<=g)
 bb:Below B w2 wr
 sz:w6.heap.size<=wr.heap.size
 bp:∀k,W5<=k->k<w6.heap.size->wr.heap[k]?=w6.heap[k]?
theorem InW.step{w2 w6:World}{B W5:Nat}{l':List VW}{wr:World}(h:InW w2 w6 B W5 l u wr){a:Option Nat}{junk:List VW}(h1:yW.Rw wr a l junk)(h2:∀g,a=some g->B<=g/\(g<W5\/w6.heap.size<=g)){a':Option Nat}{junk':List VW}(f:yW.Rw w' a' l' junk')(k2:∀g,a'=some g->a=some g\/wr.heap.size<=g)(b:Frm (fun k=>a=some k) wr w')(d:B<=wr.heap.size):InW w2 w6 B W5 l' (.slice (adr a') l'.length (l'.length+junk'.length)) w':=by
 refine⟨⟨a',junk',rfl,f,fun g e=>?_⟩,h.bb.trans (b.below d fun k e=>(h2 k e).1),lT h.sz b.size,fun k i c=>?_⟩
 ·rcases k2 g e with q | q
  ·exact h2 g q
  ·exact⟨by omega,.inr (lT h.sz q)⟩
 ·refine(b.block k (lL c h.sz) fun q=>?_).trans (h.bp k i c)
  have:=(h2 k q).2;omega
