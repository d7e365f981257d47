import Derived.Test.YtmpagpeenjddgaaGreatEd4
set_option maxHeartbeats 9999999
set_option maxRecDepth 99999
set_option linter.all false
namespace Go.Proofs.YtmpagpeenjddgaaGreat
open Go.RowKit Fo
variable{l:List TO}{w:World}{f:fZ}
theorem tQ(zs:List Int)(n:Nat)(a:St2):∀j,(iX zs n a j).1.length<=n+202*j
 | 0=>by simp[iX,aAF]
 | j+1=>by
  have c:=tQ zs n a j;have b:=aAG zs ((j:Int)+1) n 200 (nxV zs (iX zs n a j).2 9) ((iX zs n a j).1++[(5,0,rgE,rgE)]++[(3,0,rgE,rgE)]) (nxS zs (iX zs n a j).2);simp only[lP,List.length_singleton]at b;show(aMO zs ((j:Int)+1) n (iX zs n a j).1 (iX zs n a j).2).1.length<=_
  unfold aMO;omega
theorem aCE(base g:Nat)(a:Option Addr)(c:Nat)(zs:List Int)(p:St2)(w:World)(Z:dQ base g a c zs p w):
  Calls Tryz.prog 29 #[pT g 0] w fun e w'=>∃u,e=.returned u/\DrI base g a c zs w u (aAH zs p).1 (aAH zs p).2 w':=by
 have z:=Z.lt;have HL:Hid (yO.Own w.heap.size (w.alloc (.cells #[] 33)) (sL w.heap.size 0 0 0) []):=Ely.Own.lit _ _ (nR _) _ rfl;have HR:Hid (aAH zs p=iX zs (60+nxV zs p 140).toNat (nxS zs p) 2):=rfl;have hv:=bW zs p (n:=140) (by decide) (by decide);generalize aAH zs p=R at *;go_enter Tryz.func29,Tryz.ntmps29;go_wp2_with fail;refine(bA base g a c zs p 140 (by decide) (by decide) _ (Z.below (eU _ _))).mono ?_;rintro e w1 ⟨rfl,d8,qz⟩;obtain⟨n,Y⟩:∃n:Nat,60+nxV zs p 140=(n:Int):=⟨(60+nxV zs p 140).toNat,by omega⟩;have O6:IntKind.i64.wrap (60+nxV zs p 140)=(n:Int):=by rw[Y];exact IntWalk.i64_in _ ⟨by omega,by omega⟩
 have ZX:n<=199:=by omega
 rw[Y,Int.toNat_natCast]at HR;clear Y;generalize nxV zs p 140=v at *;generalize nxS zs p=o at *;have ly:Hid (DrI base g a c zs w (sL w.heap.size 0 0 0) [] o w1):=⟨HL.out.ae qz fun r hr q=>by omega,d8,(Frm.alloc _ _ _).trans qz⟩;clear HL Z d8 qz hv;go_wp2_with fail;go_loopw [3,5] (fun E i wr=>∃k:Nat,k<=n/\i=iV k/\DrI base g a c zs w E (xP k) o wr) (fun _ i _=>n -(intOf i).toNat)
 case atStart=>exact⟨0,Nat.zero_le _,rfl,ly.out⟩
 case round=>
  obtain⟨k,hk,rfl,s⟩:=hrel;clear ly;by_cases ai:k<n
  ·have jl:(k:Int) <(n:Int):=by omega
   go_wp2_with fail
   refine(jY k (by omega) (by omega) _).mono ?_;rintro e w3 ⟨rfl,bg⟩;have G:=s.bq bg;have L:=G.own;have J:=G.ae.size;have U:(xP k).length<1000000:=by rw[aAF];omega
   have F:=toHid' G;have HA:Hid (xP (k+1)=xP k++[(1,0,ris k,rgR)]):=rfl;clear s G;go_wp2_with (first | (at_builtin;refine yO.av rfl _ _ rfl L rfl (1,0,ris k,rgR) rfl rfl U J ?_;intro v' w12 K bp N));go_roundw
   case rel=>exact⟨k+1,by omega,by go_num,F.out.app z (by rw[HA.out];exact K) N⟩
   case measure=>simp[intOf];omega
  ·have jl:¬(k:Int) <(n:Int):=by omega
   obtain rfl:k=n:=by omega
   have Mg:Hid (DrI base g a c zs w u3 (xP k) o wr):=s;clear s;go_wp2_with fail;go_loopw [3,6,7,8] (fun E r _ _ wr=>∃j:Nat,j<=2/\r=iV ((j:Int)+1)/\DrI base g a c zs w E (iX zs k o j).1 (iX zs k o j).2 wr) (fun _ r _ _ _=>3 -(intOf r).toNat)
   case atStart=>exact⟨0,by omega,rfl,Mg.out⟩
   case round=>
    obtain⟨j,hj,rfl,s⟩:=hrel;clear Mg;by_cases FK:j<2
    ·have eX:((j:Int)+1)<3:=by omega
     have Q:Hid (iX zs k o (j+1)=uZ zs ((j:Int)+1) k 200 (nxV zs (iX zs k o j).2 9) ((iX zs k o j).1++[(5,0,rgE,rgE)]++[(3,0,rgE,rgE)]) (nxS zs (iX zs k o j).2)):=rfl;have ah:=tQ zs k o j;obtain⟨V,HJ⟩:∃x,Hid (iX zs k o (j+1)=x):=⟨_,rfl⟩;rw[HJ.out]at Q;generalize (iX zs k o j).1=l at *;generalize (iX zs k o j).2=q at *;have L:=s.own;have J:=s.ae.size;have U:l.length<1000000:=by omega
     have F:=toHid' s;clear s;go_upto_region 11 with(at_builtin;refine yO.av rfl _ _ rfl L rfl (5,0,rgE,rgE) rfl rfl U J ?_;intro v1 w4 K bp N)
     have H:=F.out.app z K N;have VO:=H.own;have Hm:=H.ae.size;have TK:(l++[(5,0,rgE,rgE)]).length<1000000:=by simp;omega
     have UP:=toHid' H;clear H F K bp N L J;go_upto_region 12 with(at_builtin;refine yO.av rfl _ _ rfl VO rfl (3,0,rgE,rgE) rfl rfl TK Hm ?_;intro v2 w5 In Nn N5)
     have pt:=UP.out.app z In N5;clear UP In Nn N5 VO Hm;have hvi:=bW zs q (n:=9) (by decide) (by decide);go_wp2_with fail;refine(bA base g a c zs q 9 (by decide) (by decide) _ pt.src).mono ?_;rintro e w6 ⟨rfl,Iv,N4⟩;have UQ:=toHid' (pt.next z Iv N4);clear pt Iv N4;generalize nxV zs q 9=i0 at *;generalize nxS zs q=M at *;have DG:(l++[(5,0,rgE,rgE)]++[(3,0,rgE,rgE)]).length<=2000:=by simp;omega
     generalize l++[(5,0,rgE,rgE)]++[(3,0,rgE,rgE)]=l2 at *;go_wp2_with fail;go_loopw [3,7,8] (fun E i _ wr=>∃(m:Nat) (d:Int) (h:List TO) (f:St2),i=iV d/\0<=d/\d<=300/\(k:Int)-d<m/\m<=200/\h.length+m<=2200/\Hid (V=uZ zs ((j:Int)+1) k m d h f)/\DrI base g a c zs w E h f wr) (fun _ i _ _=>400 -(intOf i).toNat)
     case atStart=>exact⟨200,i0,l2,M,rfl,by omega,by omega,by omega,by omega,by omega,Q,UQ.out⟩
     case round=>
      obtain⟨m,d,h,f,rfl,GC,LF,him,pd,TM,D,I⟩:=hrel;clear UQ Q;by_cases t:d <(k:Int)
      ·obtain⟨m,rfl⟩:∃m',m=m'+1:=⟨m-1,by omega⟩
       have HS:Hid (V=uZ zs ((j:Int)+1) k m (d+5+nxV zs (nxS zs f) 8) (h++[(if nxV zs f 3=0 then 2 else 1,(j:Int)+1,ris d,rgS)]) (nxS zs (nxS zs f))):=D.out.trans (if_pos t);clear D;have v3:=bW zs f (n:=3) (by decide) (by decide);have v8:=bW zs (nxS zs f) (n:=8) (by decide) (by decide);go_wp2_with fail;refine(jY d GC (by omega) _).mono ?_;rintro e w7 ⟨rfl,xw⟩;have C:=I.bq xw;obtain⟨ra,b,QB,O,DJ⟩:=C.own;have I7:=C.ae.size;have X:DoB base g a c zs w w7.heap.size ra h b f (1,(j:Int)+1,ris d,rgS) (w7.alloc (.cells #[iV 1,iV ((j:Int)+1),.string (ris d),.string rgS] 33)):=
        ⟨C.src.below (eU _ _),O.ae (S:=fun _=>False) (Frm.alloc _ _ _) fun _ _=>id,IsC.new _ _ _,C.ae.trans (Frm.alloc _ _ _),z,I7,fun r e=>⟨DJ r e,by have:=(O.arr r e).lt;omega⟩⟩
       clear I C O;generalize ris d=key at *;go_wp2_with fail;refine(bA base g a c zs f 3 (by decide) (by decide) _ X.src).mono ?_;rintro e w8 ⟨rfl,Dp,MG⟩;have B:=X.next Dp MG;generalize w7.heap.size=B0 at *;clear X Dp MG;generalize nxV zs f 3=t3 at *;obtain⟨kd,y⟩:∃x,Hid ((if t3=0 then(2:Int)else 1)=x):=⟨_,rfl⟩;rw[y.out]at HS;go_upto_if 52 with fail
       go_cut [] (fun wx=>DoB base g a c zs w B0 ra h b (nxS zs f) (kd,(j:Int)+1,key,rgS) wx)
       case first=>
        by_cases M:t3=0
        ·obtain rfl:2=kd:=by rw[<-y.out,if_pos M]
         obtain⟨c0,_,_,_,f0,_⟩:=B.cells;have GS:=toHid' (B.put 0 (iV 2) (2,(j:Int)+1,key,rgS) rfl);clear B;go_wp2;go_meet;exact GS.out
        ·obtain rfl:1=kd:=by rw[<-y.out,if_neg M]
         go_wp2
         go_meet
         exact B
       case rest=>
        have A:DoB base g a c zs w B0 ra h b (nxS zs f) (kd,(j:Int)+1,key,rgS) wc:=hcut;obtain⟨c0,c1,c2,c3,_⟩:=A.cells;have W:yO.Own w.heap.size wc (.slice (adr ra) h.length (h.length+b.length)) h:=⟨ra,b,rfl,A.row,DJ⟩;have Bu:=A.ae.size;have TL:h.length<1000000:=by omega
        have UR:Hid (DrI base g a c zs w (.slice (adr ra) h.length (h.length+b.length)) h (nxS zs f) wc):=⟨W,A.src,A.ae⟩;clear A B hcut;subst QB;go_upto_region 14 with(at_builtin;refine yO.av rfl _ _ rfl W rfl (kd,(j:Int)+1,key,rgS) rfl rfl TL Bu ?_;intro v3' w9 DH No N6)
        have T:=UR.out.app z DH N6;clear UR DH No N6 W Bu;go_wp2_with fail;refine(bA base g a c zs (nxS zs f) 8 (by decide) (by decide) _ T.src).mono ?_;rintro e w10 ⟨rfl,ry,zu⟩;have QW:=toHid' (T.next z ry zu);clear T ry zu;generalize nxV zs (nxS zs f) 8=t8 at *;have bx:IntKind.i64.wrap (d+5)=d+5:=IntWalk.i64_in _ ⟨by omega,by omega⟩;have de:IntKind.i64.wrap (d+5+t8)=d+5+t8:=IntWalk.i64_in _ ⟨by omega,by omega⟩;go_wp2;go_roundw
        case rel=>exact⟨m,d+5+t8,_,_,rfl,by omega,by omega,by omega,by omega,by simp;omega,HS,QW.out⟩
        case measure=>simp[intOf];omega
      ·have P:Hid (V=(h,f)):=by
        cases m with
        | zero=>exact D.out
        | succ m=>exact D.out.trans (if_neg t)
       have Wx:=toHid' I;clear I D;go_wp2;go_roundw
       case rel=>exact⟨j+1,by omega,by go_num,by rw[HJ.out,P.out];exact Wx.out⟩
       case measure=>simp[intOf];omega
    ·have eX:¬((j:Int)+1)<3:=by omega
     obtain rfl:j=2:=by omega
     have P:Hid (R=iX zs k o 2):=HR.out;have Wv:=toHid' s;clear s;go_wp2;go_ret;rw[P.out];exact⟨_,rfl,Wv.out⟩
abbrev oA:TO:=(6,0,{data:=#[97]},{data:=#[]})
def aAB:Nat->List TO->List TO
 | 0,l=>l
 | m+1,l=>if l.length<=2000 then aAB m (l++[oA])else l
def slN:Value->Nat
 | .slice _ n _=>n
 | _=>0
def slC:Value->Nat
 | .slice _ _ c=>c
 | _=>0
def dfR(zs:List Int)(p:St2):Int×List TO:=
 let l:=doR zs (tbR zs p).2 (30+(zs.length:Int) / 2)
 let k:=nxV zs l.2 30
 if 28<=k then(512-nxV zs (nxS zs l.2) 300,(aAH zs (nxS zs (nxS zs l.2))).1)
 else if k=0 then(7,l.1)else if k=1 then(513,l.1)
 else if k=2 then((tbR zs p).1,(aAB 2001 l.1).take (2000+nxV zs (nxS zs l.2) 2).toNat)else((tbR zs p).1,l.1)
theorem aEH{base:Nat}{u:Value}(h:yO.Own base w u l):l.length<=slC u:=by
 obtain⟨a,b,rfl,_⟩:=h;exact Nat.le_add_right _ _
theorem sU(base g:Nat)(a:Option Addr)(c:Nat)(zs:List Int)(p:St2)(w:World)(U:dQ base g a c zs p w):
  Calls Tryz.prog 17 #[pT g 0] w fun e w'=>∃u,e=.returned (.tuple #[iV (dfR zs p).1,u])/\(yO.Sl w' u (dfR zs p).2/\(dfR zs p).2.length<=slC u)/\Frm (·=g) w w':=by
 have vm:=U.lt;have hlz:=U.len;have G:Hid (dfR zs p=if 28<=nxV zs (doR zs (tbR zs p).2 (30+(zs.length:Int) / 2)).2 30 then(512-nxV zs (nxS zs (doR zs (tbR zs p).2 (30+(zs.length:Int) / 2)).2) 300,(aAH zs (nxS zs (nxS zs (doR zs (tbR zs p).2 (30+(zs.length:Int) / 2)).2))).1)else if nxV zs (doR zs (tbR zs p).2 (30+(zs.length:Int) / 2)).2 30=0 then(7,(doR zs (tbR zs p).2 (30+(zs.length:Int) / 2)).1)else if nxV zs (doR zs (tbR zs p).2 (30+(zs.length:Int) / 2)).2 30=1 then(513,(doR zs (tbR zs p).2 (30+(zs.length:Int) / 2)).1)else if nxV zs (doR zs (tbR zs p).2 (30+(zs.length:Int) / 2)).2 30=2 then((tbR zs p).1,(aAB 2001 (doR zs (tbR zs p).2 (30+(zs.length:Int) / 2)).1).take (2000+nxV zs (nxS zs (doR zs (tbR zs p).2 (30+(zs.length:Int) / 2)).2) 2).toNat)else((tbR zs p).1,(doR zs (tbR zs p).2 (30+(zs.length:Int) / 2)).1)):=rfl;generalize dfR zs p=R at *;go_enter Tryz.func17,Tryz.ntmps17;go_wp2_with fail;refine(mY base g a c zs p _ U).mono ?_;rintro e w1 ⟨rfl,Q,Z⟩;generalize (tbR zs p).1=n0 at *;generalize (tbR zs p).2=W at *;have c0:=Q.cells.1;have e1:((zs.length:Nat):Int).tdiv 2=(zs.length:Int) / 2:=Int.tdiv_eq_ediv_of_nonneg (by omega);have e2:IntKind.i64.wrap ((zs.length:Int) / 2)=(zs.length:Int) / 2:=IntWalk.i64_in _ ⟨by omega,by omega⟩;have e3:IntKind.i64.wrap (30+(zs.length:Int) / 2)=30+(zs.length:Int) / 2:=IntWalk.i64_in _ ⟨by omega,by omega⟩;go_wp2_with fail;refine(zQ base g a c zs W (30+(zs.length:Int) / 2) (by omega) (by omega) _ Q).mono ?_;rintro e w2 ⟨u,rfl,J,ju,mr⟩;generalize (doR zs W (30+(zs.length:Int) / 2)).1=l at *;generalize (doR zs W (30+(zs.length:Int) / 2)).2=L at *;have v30:=bW zs L (n:=30) (by decide) (by decide);clear c0 e1 e2 e3;go_wp2_with fail;refine(bA base g a c zs L 30 (by decide) (by decide) _ ju).mono ?_;rintro e w3 ⟨rfl,A,M⟩;have y:=J.ae M (fun r hr q=>by have:=Z.size;omega);have i:Frm (·=g) w w3:=(Z.trans mr).trans M;generalize nxV zs L 30=k at *;generalize nxS zs L=j at *;clear Q ju mr M J;have C:∀(x:Int) (z:Value) (b:List TO) (wr:World),R=(x,b)->yO.Own w1.heap.size wr z b->Frm (·=g) w wr->∃u,(.returned (.tuple #[iV x,z]):Ending)=.returned (.tuple #[iV R.1,u])/\(yO.Sl wr u R.2/\R.2.length<=slC u)/\Frm (·=g) w wr:=fun x z b wr e h1 h2=>by subst e;exact⟨_,rfl,⟨h1.sl,aEH h1⟩,h2⟩
 have O:=toHid' C;clear C;by_cases r0:28<=k
 ·have f:=toHid' (G.out.trans (if_pos r0))
  have v300:=bW zs j (n:=300) (by decide) (by decide);clear G;go_wp2_with fail;refine(bA base g a c zs j 300 (by decide) (by decide) _ A).mono ?_;rintro e w4 ⟨rfl,vt,GA⟩;generalize nxV zs j 300=t at *;have tu:IntKind.i64.wrap (512-t)=512-t:=IntWalk.i64_in _ ⟨by omega,by omega⟩;go_wp2_with fail;refine(aCE base g a c zs (nxS zs j) _ vt).mono ?_;rintro e w5 ⟨u5,rfl,Y⟩;have B:=toHid' (aI Y.own ((i.trans GA).trans Y.ae));clear Y A vt GA;go_wp2;refine bodyPost_ret (v:=.tuple #[iV (512-t),u5]) (by simp[results,Tryz.results17,go_sem]) rfl ?_;rw[f.out];exact⟨_,rfl,⟨B.out.1.sl,aEH B.out.1⟩,B.out.2⟩
 ·have F:=toHid' (G.out.trans (if_neg r0))
  clear G;by_cases r1:k=0
  ·have f:=toHid' (F.out.trans (if_pos r1))
   have o:=toHid' (aI y i);clear F y i A;go_wp2;refine bodyPost_ret (v:=.tuple #[iV 7,u]) (by simp[results,Tryz.results17,go_sem]) rfl ?_;exact O.out _ _ _ _ f.out o.out.1 o.out.2
  ·have D:=toHid' (F.out.trans (if_neg r1))
   clear F;by_cases r2:k=1
   ·have f:=toHid' (D.out.trans (if_pos r2))
    have o:=toHid' (aI y i);clear D y i A;go_wp2;refine bodyPost_ret (v:=.tuple #[iV 513,u]) (by simp[results,Tryz.results17,go_sem]) rfl ?_;exact O.out _ _ _ _ f.out o.out.1 o.out.2
   ·have K:=toHid' (D.out.trans (if_neg r2))
    clear D;by_cases r3:k=2
    ·have f:=toHid' (K.out.trans (if_pos r3))
     have Mg:Hid (DrI base g a c zs w u l j w3):=⟨y.base Z.size,A,i⟩;obtain⟨P,N⟩:∃x,Hid (aAB 2001 l=x):=⟨_,rfl⟩;rw[N.out]at f;clear K y i A;go_wp2_with fail;go_loopw [5] (fun z wr=>∃(m:Nat) (b:List TO),Hid (P=aAB m b)/\2000<b.length+m/\DrI base g a c zs w z b j wr) (fun z _=>2001-slN z)
     case atStart=>exact⟨2001,l,N.out.symm,by omega,Mg.out⟩
     case round=>
      obtain⟨m,b,I,FM,s⟩:=hrel;clear Mg N;obtain⟨ra,d,QB,E,DJ⟩:=s.own;subst QB;by_cases T:b.length<=2000
      ·have ZQ:(b.length:Int)<=2000:=by omega
       obtain⟨m,rfl⟩:∃m',m=m'+1:=⟨m-1,by omega⟩;have HS:Hid (P=aAB m (b++[oA])):=I.out.trans (if_pos T);have J:=s.own;have aw:=s.ae.size;have OQ:b.length<1000000:=by omega
       have B:=toHid' s;clear s E;go_wp2_with (first | (at_builtin;refine yO.av rfl _ _ rfl J rfl oA rfl rfl OQ aw ?_;intro v' w12 ax bp zw));obtain⟨ra2,V,TX,_⟩:=id ax;go_roundw
       case rel=>exact⟨m,_,HS,by simp;omega,B.out.app vm ax zw⟩
       case measure=>rw[TX];simp[slN];omega
      ·have ZQ:¬(b.length:Int)<=2000:=by omega
       have Wz:Hid (P=b):=by
        cases m with
        | zero=>exact I.out
        | succ m=>exact I.out.trans (if_neg T)
       have v2:=bW zs j (n:=2) (by decide) (by decide);obtain⟨r,rfl⟩:∃r,ra=some r:=by
        cases ra with
        | none=>have:=(E.nil rfl).1;subst this;simp at T
        | some r=>exact⟨r,rfl⟩
       have H:=toHid' (aI (E.arr r rfl) (aI (DJ r rfl) s.ae));clear E I;simp only[adr];go_wp2_with fail;refine(bA base g a c zs j 2 (by decide) (by decide) _ s.src).mono ?_;rintro e w5 ⟨rfl,GI,X⟩;generalize nxV zs j 2=t at *;obtain⟨h,S⟩:∃h:Nat,2000+t=(h:Int):=⟨(2000+t).toNat,by omega⟩;have hwh:IntKind.i64.wrap (2000+t)=(h:Int):=by rw[S];exact IntWalk.i64_in _ ⟨by omega,by omega⟩
       rw[S,Int.toNat_natCast,Wz.out]at f;have ap:h<=b.length+d.length:=by omega
       have GU:Hid (h<=slC (sL r 0 h (b.length+d.length))):=ap;have IA:Hid (yO.Sl w5 (sL r 0 h (b.length+d.length)) (b.take h)):=by
        have ai:(b.take h).length=h:=by rw[List.length_take];omega
        refine .inr ⟨r,0,b.length+d.length,b++d,by simp[ai],H.out.1.ae X (fun q=>by have:=H.out.2.1;omega),by simp;omega,?_⟩;rw[ai,List.drop_zero,List.take_append_of_le_length (by omega)]
       have vb:=toHid' (H.out.2.2.trans X);clear H s GI X S;go_wp2;refine bodyPost_ret (v:=.tuple #[iV n0,sL r 0 h (b.length+d.length)]) (by simp[results,Tryz.results17,go_sem]) rfl ?_;rw[f.out];exact⟨_,rfl,⟨IA.out,lT (by rw[List.length_take];exact Nat.min_le_left _ _) GU.out⟩,vb.out⟩
    ·have f:=toHid' (K.out.trans (if_neg r3))
     have o:=toHid' (aI y i);clear K y i A;go_wp2;refine bodyPost_ret (v:=.tuple #[iV n0,u]) (by simp[results,Tryz.results17,go_sem]) rfl ?_;exact O.out _ _ _ _ f.out o.out.1 o.out.2
def dtr(zs:List Int):Int×List TO:=dfR zs (0,bgN zs zs.length)
theorem mK(a:Option Addr)(c:Nat)(zs:List Int)(w:World)(o:Bts w (.slice a zs.length c) zs)(m:zs.length<=1048576)(q:0<zs.length->∀b off,a=some ⟨b,off,none⟩->b<w.heap.size):
  Calls Tryz.prog 5 #[.slice a zs.length c] w fun e w'=>∃u,e=.returned (.tuple #[iV (dtr zs).1,u])/\(yO.Sl w' u (dtr zs).2/\(dtr zs).2.length<=slC u)/\Bl w w':=by
 go_enter Tryz.func5,Tryz.ntmps5
 go_wp2_with fail
 refine(aFT a c zs w o m).mono ?_;rintro e w1 ⟨rfl,f⟩;have d:=IsC.new w1 #[.slice a zs.length c,iV 0,.int .u64 (bgN zs zs.length)] 51;have n:dQ w1.heap.size w1.heap.size a c zs (0,bgN zs zs.length) (w1.alloc (.cells #[.slice a zs.length c,iV 0,.int .u64 (bgN zs zs.length)] 51)):=
  ⟨(o.below f).below (eU _ _),fun h b off e=>lL (q h b off e) f.size,nR _,m,Nat.zero_le _,d.cell 0,d.cell 1,d.cell 2,d.frozen 0,d.frozen 1,d.frozen 2⟩
 go_wp2_with fail
 refine(sU _ _ a c zs _ _ n).mono ?_;rintro e p ⟨u,rfl,j,l⟩;have g:Hid ((yO.Sl p u (dtr zs).2/\(dtr zs).2.length<=slC u)/\Bl w p):=⟨j,f.trans (((eU w1 _).mono f.size).trans (l.below (lT f.size (by simp)) fun k e=>by rw[e];exact f.size))⟩;have i:Hid ((dfR zs (0,bgN zs zs.length)).1=(dtr zs).1):=rfl;rw[i.out];clear j l n d i;go_wp2;refine bodyPost_ret (v:=.tuple #[iV (dtr zs).1,u]) (by simp[results,Tryz.results5,go_sem]) rfl ?_;exact⟨_,rfl,g.out.1,g.out.2⟩
theorem rY(zs:List Int)(a:Int)(n:Nat):∀(m:Nat) (ids:Int) (l:List TO) (p:St2),(yZ zs a n m ids l p).1.length=l.length+m
 | 0,_,l,_=>rfl
 | m+1,ids,l,p=>by
  unfold yZ;rw[rY zs a n m];simp;omega
theorem aLV(zs:List Int)(h:zs.length<=1048576):(dtr zs).2.length<=1048576:=by
 have b:∀p,(doR zs p (30+(zs.length:Int) / 2)).1.length<=600000:=fun p=>by
  have:=bW zs p (n:=30+(zs.length:Int) / 2) (by omega) (by omega)
  unfold doR;rw[rY];simp only[List.length_nil];omega
 unfold dtr dfR;simp only;split
 ·rename_i q
  generalize (doR zs _ _).2=a;simp only;have:=bW zs (nxS zs (nxS zs a)) (n:=140) (by decide) (by decide);have:=tQ zs (60+nxV zs (nxS zs (nxS zs a)) 140).toNat (nxS zs (nxS zs (nxS zs a))) 2;unfold aAH;omega
 ·split
  ·exact lT (b _) (by decide)
  ·split
   ·exact lT (b _) (by decide)
   ·split
    ·generalize (doR zs _ _).2=a
     have:=bW zs (nxS zs a) (n:=2) (by decide) (by decide)
     simp only[List.length_take];omega
    ·exact lT (b _) (by decide)
theorem aLW(zs:List Int)(h:zs.length<=1048576):0 <(dtr zs).2.length:=by
 have a:∀p,4<=(doR zs p (30+(zs.length:Int) / 2)).1.length:=fun p=>by
  have:=bW zs p (n:=30+(zs.length:Int) / 2) (by omega) (by omega)
  unfold doR;rw[rY];simp only[List.length_nil];omega
 have d:∀(m:Nat) (l:List TO),4<=l.length->4<=(aAB m l).length:=by
  intro m;induction m with
  | zero=>intro l q;exact q
  | succ m ih=>intro l q;unfold aAB;split;exact ih _ (by simp;omega);exact q
 have c:∀(r n:Int) (m:Nat) (i:Int) (l:List TO) (q:St2),l.length<=(uZ zs r n m i l q).1.length:=by
  intro r n m;induction m with
  | zero=>intro i l q;exact nR _
  | succ m ih=>intro i l q;unfold uZ;split;exact lT (by simp) (ih _ _ _);exact nR _
 unfold dtr dfR;simp only;split
 ·generalize (doR zs _ _).2=b
  unfold aAH iX aMO;exact lL (by simp) (c _ _ _ _ _ _)
 ·split
  ·exact lL (by decide) (a _)
  ·split
   ·exact lL (by decide) (a _)
   ·split
    ·have e:=d 2001 _ (a (tbR zs (0,bgN zs zs.length)).2)
     generalize (doR zs _ _).2=b;have:=bW zs (nxS zs b) (n:=2) (by decide) (by decide);simp only[List.length_take];omega
    ·exact lL (by decide) (a _)
theorem atT_rid'(a:Inv f){t:Nat}(ht:t<f.r.length):atT f (rid f t)=some t:=by
 cases e:atT f (rid f t)with
 | none=>
  unfold atT at e;have:=List.find?_eq_none.1 e t (List.mem_range.2 ht);simp at this
 | some s=>
  obtain⟨b,c⟩:=mP e;rcases Nat.lt_trichotomy s t with q | q | q
  ·have:=a.ids s t q ht;omega
  ·rw[q]
  ·have:=a.ids t s q b;omega
theorem aIN(b:Inv f){ht:Nat->Nat}(c:Hts f.n ht):∀k:Nat,k<=f.r.length->Bd f.c.length (5120*k) (z64,edT f ht k,sn (edT f ht k))
 | 0,_=>by
  have e:edT f ht 0=List.replicate f.c.length 0:=rfl;rw[e];refine⟨by simp[z64],by simp,by simp[aKL],fun x=>by rw[eK];exact⟨by decide,by decide⟩,fun x=>by rw[xU,eK];exact⟨by decide,by decide⟩⟩
 | k+1,d=>by
  obtain⟨h,e⟩:=aIP b c d;have a:=(aIN b c k (by omega)).run (by omega) (shp f (aB f k)) _ (nR _);obtain⟨H,g⟩:=vok b d;have i:=g.few;rw[List.take_length,e]at a;exact⟨by simp[z64],a.l2,a.l3,fun x=>⟨(a.c x).1,Int.le_trans (a.c x).2 (by omega)⟩,a.s'⟩
theorem aLQ(e:Inv f)(b:Nat):(cls b (f.c.getD b 0) (f.m.getD b 0) == 2)=((sn f.c).getD b 0 == 1):=by
 have i:=(e.counts b).1;have h:b<2->cu f b=0:=fun q=>by
  have:¬0<cu f b:=fun p=>by obtain⟨d,j⟩:=e.ic.live p;have:=e.ic.dr j;omega
  omega
 rw[xU];unfold cu at i h;unfold cls;by_cases a:b<2
 ·rw[if_pos a,h a];decide
 ·rw[if_neg a]
  by_cases g:0<f.c.getD b 0
  ·have c:1<=f.c.getD b 0:=by omega
   rw[if_pos g,if_pos c];rfl
  ·have c:¬1<=f.c.getD b 0:=by omega
   rw[if_neg g,if_neg c];split<;>rfl
theorem aLP(a:Inv f):chk [f.c,f.m]=0:=by
 have v:=a.ic.n8;have u:=a.ic.al;have s:=a.ic.len;have j:∀b,b<2->f.c.getD b 0=0:=fun b q=>by
  have t:=(a.counts b).1;have:¬0<cu f b:=fun p=>by obtain⟨d,r⟩:=a.ic.live p;have:=a.ic.dr r;omega
  unfold cu at *;omega
 have g:∀b,b<2->f.m.getD b 0=0:=fun b q=>a.dy b q;have e:∀l:List Int,(∀i,0<=l.getD i 0/\l.getD i 0<=65535)->eH l=false:=fun l h=>mO 0 fun i _=>by have:=h i;simp only[inB,Bool.not_eq_false'];exact decide_eq_true (by omega)
 have k:eH f.c=false:=e _ fun i=>by have:=a.counts i;unfold cu at this;omega
 have m:eH f.m=false:=e _ fun i=>a.db i;have n:eQ f.c=false:=by unfold eQ;rw[j 0 (by decide),j 1 (by decide)];rfl
 have o:eQ f.m=false:=by unfold eQ;rw[g 0 (by decide),g 1 (by decide)];rfl
 have c:∀l:List Int,l.length=f.c.length->eV f.c.length l=false:=fun l h=>by
  unfold eV;rw[h];simp[inB];omega
 unfold chk;simp only[List.any_cons,List.any_nil,List.getD_cons_zero,k,m,n,o,c _ rfl,c _ s];rfl
theorem rdB{a:Option Addr}{c:Nat}{zs:List Int}(h:Nts w (.slice a zs.length c) zs)(d:0<zs.length):∃g o,a=some ⟨g,o,none⟩/\g<w.heap.size/\∀W:World,W.heap[g]?=w.heap[g]?->∀k,k<zs.length->W.cell? (aD g (o+k))=some (iV (zs.getD k 0)):=by
 obtain⟨m,n,e,i⟩:=h.shape;cases e;obtain⟨g,o,rfl,b⟩:=i d;have j:g<w.heap.size:=World.block_lt_of_cell? _ _ (b 0 d);refine⟨g,o,rfl,j,fun W f k l=>?_⟩;rw[<-b k l];simp[World.cell?,f]
theorem aIE{n:Int}(hc:trC n l=0):mI l (trA n l) l.length=(trF n l).r.map Prod.fst/\((trF n l).c.length:Int)=n/\Inv (trF n l)/\l.length<=2000/\(trA n l).length=l.length:=by
 have d:trA n l=fJ (aJ n.toNat) l:=by unfold trA;rw[if_pos hc]
 have f:=aCZ hc;have g:(8<=n/\n<=512)/\l.length<=2000:=by
  rcases mF n l with⟨b,a⟩ | ⟨b,a,c⟩ | ⟨b,a,c⟩
  ·omega
  ·omega
  ·exact⟨by unfold inB at a;simpa using a,c⟩
 have e:=aJO (Inv.fresh (n:=n.toNat) (by omega) (by omega)) (pC _) rfl l l.length (nR _);rw[List.take_length,<-d]at e;have h:(aJ n.toNat).c.length=n.toNat:=by simp[aJ]
 exact⟨e,by rw[f.c,h];omega,f.inv,g.2,by rw[d,gQ]⟩
theorem aIF(a:Option Addr)(c:Nat)(zs:List Int)(w:World)(hv:Bts w (.slice a zs.length c) zs)(hl:zs.length<=1048576)(ho:0<zs.length->∀b off,a=some ⟨b,off,none⟩->b<w.heap.size):
  Calls Tryz.prog 3 #[.slice a zs.length c] w fun e w'=>e=.returned (.bool true)/\Bl w w':=by
 have bz:=aLW zs hl;have ah:=aLV zs hl;have h1:¬(1048576:Int) <(zs.length:Int):=by omega
 have HD:=aA (mK a c zs w hv hl ho);have Ag:=aA fun(W:World) (t:Bl w W)=>mK a c zs W (hv.below t) hl fun h b off e=>lL (ho h b off e) t.size;generalize dtr zs=D at *;obtain⟨n,l⟩:=D;simp only at HD Ag bz ah;clear hv ho hl;go_enter Tryz.func3,Tryz.ntmps3;go_wp2_with fail;refine HD.out.mono ?_;rintro e w1 ⟨u,rfl,⟨hS,_⟩,ao⟩;obtain⟨g,o,c0,rfl,_,_⟩:=hS.at bz;go_wp2_with fail;refine(Ag.out w1 ao).mono ?_;rintro e w2 ⟨u,rfl,⟨hT,_⟩,be⟩;obtain⟨g',o',c',rfl,_,_⟩:=hT.at bz;go_wp2_with fail;refine(qX n l _ _ (hS.below be) ah).mono ?_;rintro e w3 ⟨ua,rfl,hA,I⟩;go_wp2_with fail;refine(qR n l _ _ (hT.below I) ah).mono ?_;rintro e w4 ⟨ub,rfl,hG,it⟩;obtain⟨va,vc,rfl⟩:=hA.sl.len;obtain⟨xa,xc,rfl⟩:=hG.sl.len;have Ax:=I.trans (it.mono I.size);have im:=ao.trans (be.mono ao.size);have GQ:=aA (im.trans (Ax.mono im.size));have B8:=aA ((hS.below be).below Ax);have Qz:=aA (hT.below Ax);have QN:=aA (hA.below it);have Qi:=aA hG;clear hS hT hA hG HD Ag ao be I it Ax im;by_cases hc:trC n l=0
 case neg=>
  have bq:(trC n l == 0)=false:=by simpa using hc
  clear hc B8 Qz QN Qi;generalize trC n l=cd at *;go_wp2;go_ret;exact⟨rfl,GQ.out⟩
 obtain⟨VJ,Dg,s,h2k,U2⟩:=aIE hc;obtain⟨gw,ow,cw,ew,yg,Gx⟩:=QN.out.sl.at (by omega);cases ew;obtain⟨gg,og,cg,eg,If,IV⟩:=Qi.out.sl.at (by omega);cases eg;obtain⟨_,_,_,eo,EC,Bk⟩:=aKY B8.out bz;cases eo;rw[hc,U2];have Pf:Hid (∀W,Bl w4 W->∀k,k<l.length->W.cell? (aD g (o+k*4))=some (iV (l.getD k o0).1)/\W.cell? (aD g (o+k*4+1))=some (iV (l.getD k o0).2.1)/\(W.cell? (aD gw (ow+k*3))=some (iV ((trA n l).getD k a0).1)/\W.cell? (aD gw (ow+k*3+1))=some (iV ((trA n l).getD k a0).2.1)/\W.cell? (aD gw (ow+k*3+1+1))=some (.string ((trA n l).getD k a0).2.2))/\W.cell? (aD gg (og+k*3))=some (iV ((trA n l).getD k a0).1)/\W.cell? (aD gg (og+k*3+1))=some (iV ((trA n l).getD k a0).2.1)/\W.cell? (aD gg (og+k*3+1+1))=some (.string ((trA n l).getD k a0).2.2)):=fun W d k r=>by
  obtain⟨q1,q2,_⟩:=Bk w4 k rfl r;exact⟨(d.cell (p:=aD g _) EC).trans q1,(d.cell (p:=aD g _) EC).trans q2,⟨(d.cell (p:=aD gw _) yg).trans (Gx k 0 (by omega) (by decide)),(d.cell (p:=aD gw _) yg).trans (Gx k 1 (by omega) (by decide)),(d.cell (p:=aD gw _) yg).trans (Gx k 2 (by omega) (by decide))⟩,(d.cell (p:=aD gg _) If).trans (IV k 0 (by omega) (by decide)),(d.cell (p:=aD gg _) If).trans (IV k 1 (by omega) (by decide)),(d.cell (p:=aD gg _) If).trans (IV k 2 (by omega) (by decide))⟩
 have UY:=aA (zT l (trA n l));have HC:=aA hc;have HI:=aA s;have PV:=aA VJ;have UM:=aA Dg;clear hc s VJ Dg U2 Gx IV Bk yg If EC QN Qi B8;go_wp2;go_loopw [11,12,13,14] (fun lv i _ _ wr=>∃k:Nat,k<=l.length/\i=iV k/\y64.Own w4.heap.size wr lv (mI l (trA n l) k)/\Bl w4 wr) (fun _ i _ _ _=>l.length -(intOf i).toNat)
 case atStart=>exact⟨0,Nat.zero_le _,rfl,Ely.Own.one _ _ 0 rfl (nR _) rfl,(bQ _ _).alloc (nR _) _⟩
 case round=>
  obtain⟨k,r,rfl,am,t⟩:=hrel;by_cases G:k<l.length
  ·have jl:(k:Int) <(l.length:Int):=by omega
   have K:Hid (mI l (trA n l) (k+1)=xE (l.getD k o0) ((trA n l).getD k a0) (mI l (trA n l) k)):=rfl;have LT:(mI l (trA n l) k).length<1000000:=by have:=UY.out k;omega
   have aw:=t.size;have HX:=aA fun(W:World) (d:Bl w4 W)=>Pf.out W d k G;obtain⟨Y,x1,⟨x2,x3,x4⟩,x5,x6,x7⟩:=HX.out wr t;generalize mI l (trA n l) k=L at *;generalize (l.getD k o0)=op at *;generalize ((trA n l).getD k a0)=an at *;obtain⟨kd,y,_,_⟩:=op;obtain⟨cd,vl,tx⟩:=an;simp only at Y x1 x2 x3 x4 x5 x6 x7;go_wp2;go_quiet (fail);have A:=t.trans ((below_drewN wr nq).mono aw);have X:=am.below (below_drewN wr nq);obtain⟨O,Us⟩:∃O,Hid (wr.drewN nq=O):=⟨_,rfl⟩;rw[Us.out]at A X |-;have Hn:=A.size;clear am t aw Y x1 x2 x3 x4 x5 x6 x7 Us;obtain⟨Y,x1,⟨x2,x3,_⟩,_⟩:=HX.out O A;by_cases h0:cd=0
   case neg=>
    have z:Hid (mI l (trA n l) (k+1)=L):=K.out.trans (if_pos h0);have Q9:(cd == 0)=false:=by simpa using h0
    clear h0 K;go_wp2;go_roundw
    case rel=>exact⟨k+1,by omega,by go_num,by rw[z.out];exact X,A⟩
    case measure=>simp[intOf];omega
   subst h0;by_cases h3:kd=3
   case pos=>
    subst h3;have z:Hid (mI l (trA n l) (k+1)=L++[vl]):=K.out;clear K;go_wp2_with (first | (at_builtin;refine y64.av rfl _ _ rfl X rfl vl rfl rfl LT Hn ?_;intro v' M ax bp k3;have zz:=HX.out M (A.trans bp);have z0:=zz.1;have z1:=zz.2.2.1.1;clear zz) | go_in);rw[<-z.out]at ax;have HB:=aA (A.trans bp);go_roundw
    case rel=>exact⟨k+1,by omega,by go_num,ax,HB.out⟩
    case measure=>simp[intOf];omega
   have Pj:(kd == 3)=false:=by simpa using h3
   by_cases h4:kd=4
   case neg=>
    have z:Hid (mI l (trA n l) (k+1)=L):=by
     refine K.out.trans ?_;unfold xE;simp only[ne_eq,not_true,if_false];rw[if_neg h3,if_neg h4]
    have h4':(kd == 4)=false:=by simpa using h4
    clear h3 h4 K;go_wp2;go_roundw
    case rel=>exact⟨k+1,by omega,by go_num,by rw[z.out];exact X,A⟩
    case measure=>simp[intOf];omega
   subst h4;have z:Hid (mI l (trA n l) (k+1)=L.filter fun x=>decide (x≠y)):=K.out;clear K h3;have HW:=aA A;have Qs:=aA X;have fe:Bl O (O.alloc (.cells #[] y64.t)):=(bQ _ _).alloc (nR _) _;obtain⟨la,lc,rfl⟩:=X.sl.len;clear X A;go_wp2;go_loopw [13,14] (fun rv j wx=>∃m:Nat,m<=L.length/\j=iV m/\y64.Own O.heap.size wx rv ((L.take m).filter fun x=>decide (x≠y))/\Bl O wx) (fun _ j _=>L.length -(intOf j).toNat)
   case atStart=>exact⟨0,Nat.zero_le _,rfl,Ely.Own.lit _ _ (nR _) _ rfl,fe⟩
   case round=>
    obtain⟨m,hm,rfl,hr,Q⟩:=hrel;have Ts:=Q.size;by_cases TM:m<L.length
    ·have WG:(m:Int) <(L.length:Int):=by omega
     obtain⟨lg,lo,lc',he,ZP,y0⟩:=aKX (Qs.out.sl.below Q) TM;cases he;have y1:=(HX.out wr (HW.out.trans (Q.mono Hn))).2.1;have HF:=aA (zF L y TM);have sj:((L.take m).filter fun x=>decide (x≠y)).length<1000000:=Nat.lt_of_le_of_lt (List.length_filter_le _ _) (by rw[List.length_take];omega);generalize (L.take m).filter (fun x=>decide (x≠y))=R0 at *;generalize L.getD m 0=x at *;clear ZP Y x1 x2 x3;by_cases B:x=y
     ·have E:Hid ((L.take (m+1)).filter (fun x=>decide (x≠y))=R0):=HF.out.trans (if_pos B)
      have br:(x == y)=true:=by simpa using B
      clear B HF;go_wp2;go_quiet (fail);go_wp2;go_roundw
      case rel=>exact⟨m+1,by omega,by go_num,by rw[E.out];exact hr.below (below_drewN _ _),Q.trans ((below_drewN _ _).mono Ts)⟩
      case measure=>simp[intOf];omega
     ·have E:Hid ((L.take (m+1)).filter (fun x=>decide (x≠y))=R0++[x]):=HF.out.trans (if_neg B)
      have br:(x == y)=false:=by simpa using B
      clear B HF;go_wp2;go_quiet (fail);have qh:=hr.below (below_drewN wr nq);have Tt:O.heap.size<=(wr.drewN nq).heap.size:=Ts;go_wp2_with (first | (at_builtin;refine y64.av rfl _ _ rfl qh rfl x rfl rfl sj Tt ?_;intro v' M ax bp k3) | go_in);rw[<-E.out]at ax;have HB:=aA ((Q.trans ((below_drewN wr nq).mono Ts)).trans bp);clear k3 bp;go_roundw
      case rel=>exact⟨m+1,by omega,by go_num,ax,HB.out⟩
      case measure=>simp[intOf];omega
    ·obtain rfl:m=L.length:=by omega
     rw[List.take_of_length_le (nR _),<-z.out]at hr;have HB:=aA (HW.out.trans (Q.mono Hn));have E:=aA (hr.base Hn);clear hr Q Y x1 x2 x3;go_wp2;go_roundw
     case rel=>exact⟨k+1,by omega,by go_num,E.out,HB.out⟩
     case measure=>simp[intOf];omega
  ·obtain rfl:k=l.length:=by omega
   rw[PV.out]at am;obtain⟨M,rfl⟩:∃M,M=wr:=⟨_,rfl⟩;have s:=HI.out;obtain⟨ht,hh⟩:=s.ic.ht;have Ep:=Qz.out.below t;have Ul:=aA (mV n l _ M Ep ah);have xo:Hid (∀k,k <(trF n l).r.length->∀W,yO.Sl W (sL g' o' l.length c') l->Calls Tryz.prog 10 #[iV n,sL g' o' l.length c',iV (((trF n l).r.map Prod.fst).getD k 0)] W fun e w'=>∃u,e=.returned (.tuple #[u,iV 0])/\yW.Own W.heap.size w' u (shp (trF n l) (aB (trF n l) k))/\Bl W w'):=fun k r W d=>by
    have e:((trF n l).r.map Prod.fst).getD k 0=rid (trF n l) k:=by
     rw[gD,List.getElem?_map];unfold rid;rw[gD,gE r];rfl
    obtain⟨a1,a2⟩:=aEP HC.out (atT_rid' s r);have:=nZ n l _ (rid (trF n l) k) W d ah;unfold TsP at this;rw[a1,a2]at this;rw[e];exact this
   have HU:Hid (tcU n l=(trF n l).c):=by show tcU n l=_;unfold tcU;rw[if_pos HC.out]
   have HM:Hid (tcM n l=(trF n l).m):=by show tcM n l=_;unfold tcM;rw[if_pos HC.out]
   have rz:=aA (GQ.out.trans (t.mono GQ.out.size));obtain⟨J,S,cl,el,vm,WD⟩:=am.sl.at (by rw[List.length_map];exact s.ne);obtain rfl:=el;clear am PV Pf UY Qz GQ;go_wp2_with fail;refine Ul.out.mono ?_;rintro e V ⟨ua,uc,ma,mc,l0,h0,l1,h9,rfl,p1,p2,p3,p4,p5,oU,oM,nk⟩;rw[HC.out,HU.out,HM.out];rw[HU.out]at oU;rw[HM.out]at oM;have Dg:=UM.out;clear Ul HU HM HC UM HI;generalize trF n l=f at *;obtain⟨N,rfl⟩:∃N:Nat,n=N:=⟨f.c.length,Dg.symm⟩;have hN:f.c.length=N:=by omega
   have h8:=s.ic.n8;have M1:=s.ic.al;have X5:=s.ic.len;have Yx:=s.br;obtain⟨v,ou,rfl,Fe,hu⟩:=rdB oU.c3 (by omega);rw[hN]at h8 M1 hu;have MA:(N:Int)=(N:Int):=rfl;have P:=aA hN;have Ml:=aA oU;have Ub:=aA oM;have E:=aA (fun k (r:k<f.r.length)=>aIP s hh r);have UG:=aA (aIN s hh);have HV:=aA (fun k (r:k<f.r.length)=>vok s r);have Ma:=aA (aLZ s.ic hh);have GU:=aA (aLQ s);have QV:=aA (aLP s);have Vg:=Ep.below nk;have YS:M.heap.size<=V.heap.size:=nk.size;have PM:=aA (rz.out.trans (nk.mono rz.out.size));have Mb:=aA PM.out.size;have TD:Hid (∀W:World,W.heap[J]?=V.heap[J]?->∀k,k<f.r.length->W.cell? (aD J (S+k))=some (iV ((f.r.map Prod.fst).getD k 0))):=fun W d k r=>by
    have q:=WD k 0 (by rw[List.length_map];exact r) (by decide);have e0:S+k*y64.n+0=S+k:=by show S+k*1+0=S+k;omega
    rw[e0]at q;have q2:W.cell? (aD J (S+k))=M.cell? (aD J (S+k)):=by
     have:=d.trans (nk.block J vm)
     simp[World.cell?,this]
    exact q2.trans q
   have Sk:J<V.heap.size:=by omega
   rw[hN,List.length_map,show f.m.length=N by omega];clear s hh X5 oU oM WD Ep rz t nk hN Dg;go_wp2_with fail;refine(tA N (by omega) V).mono ?_;rintro e w7 ⟨u7,rfl,Px,xw⟩;go_wp2_with fail;refine(tA N (by omega) w7).mono ?_;rintro e w8 ⟨u8,rfl,VQ,sf⟩;obtain⟨gc,jc,rfl,Ns,bu⟩:=tF Px (by rw[List.length_replicate];omega);obtain⟨gs,js,rfl,Dp,Bm⟩:=tF VQ (by rw[List.length_replicate];omega);have Vu:=Ns.of (sf.block _ Ns.lt);have ap:=Ns.lt;have Z:=xw.trans (sf.mono xw.size);have Vi:=Vg.below Z;have H3:Hid (edT f ht 0=List.replicate N 0/\sn (edT f ht 0)=List.replicate N 0):=by
    have e:edT f ht 0=List.replicate N 0:=by rw[<-P.out];rfl
    exact⟨e,by rw[e];simp[sn]⟩
   have UF:=aA (PM.out.trans (Z.mono PM.out.size));have SF:IsC w8 gc (y64.row (edT f ht 0++jc)) 2:=by rw[H3.out.1];exact Vu
   have Tm:IsC w8 gs (y64.row (sn (edT f ht 0)++js)) 2:=by rw[H3.out.2];exact Dp
   have Um:Hid (∀wr,Frm (fun x=>x=gc\/x=gs) w8 wr->yO.Sl wr (sL g' o' l.length c') l/\(∀x,x<V.heap.size->wr.heap[x]?=V.heap[x]?)):=fun wr hf=>⟨Vi.ae hf fun x cs hi q=>q.elim (hi.ne Vu (by decide)) (hi.ne Dp (by decide)),fun x B=>(hf.block x (lL B Z.size) fun q=>by omega).trans (Z.block x B)⟩;have Pl:=Z.size;rw[List.length_replicate];clear Px VQ xw sf Ns Vg Vi Z PM;go_wp2;go_loopw [20,21,22] (fun i _ _ wr=>∃k:Nat,k<=f.r.length/\i=iV k/\IsC wr gc (y64.row (edT f ht k++jc)) 2/\IsC wr gs (y64.row (sn (edT f ht k)++js)) 2/\Frm (fun x=>x=gc\/x=gs) w8 wr) (fun i _ _ _=>f.r.length -(intOf i).toNat)
   case atStart=>exact⟨0,Nat.zero_le _,rfl,SF,Tm,Frm.refl _ _⟩
   case round=>
    obtain⟨k,r,rfl,eS,T,F⟩:=hrel;obtain⟨Ry,R⟩:=Um.out wr F;by_cases G:k<f.r.length
    ·have jl:(k:Int) <(f.r.length:Int):=by omega
     have Y:=TD.out wr (R J Sk) k G;have HS:=aA (xo.out k G wr Ry);generalize (f.r.map Prod.fst).getD k 0=tree at *;go_wp2_with fail;refine HS.out.mono ?_;rintro e C ⟨uv,rfl,VS,fi⟩;obtain⟨H,C6⟩:=HV.out k G;obtain⟨F',hF⟩:=E.out k G;have SG:=aCG C6 uv v ou uc gc gs (N+jc.length) (N+js.length) jc js (edT f ht k) (sn (edT f ht k)) (5120*k) (UG.out k (by omega)) ⟨by omega,by omega⟩ C VS.sl (fun W d i hi=>hu W (d.trans ((fi.block v (lL (lL Fe Pl) F.size)).trans (R v Fe))) i (by rw[<-P.out];exact hi)) (lL (lL (lL Fe Pl) F.size) fi.size) (eS.of (fi.block _ eS.lt)) (T.of (fi.block _ T.lt)) (by omega) (by omega) (by omega);rw[hF,P.out]at SG;have ud:=aA SG;have XA:=aA (F.trans (Frm.aa fi));clear SG hF C6 HS VS fi Y eS T F R Ry;go_wp2_with fail;refine ud.out.mono ?_;rintro e U ⟨rfl,SD,ry,zu⟩;have HZ:=aA (XA.out.trans zu);clear zu ud;go_wp2;go_roundw
     case rel=>exact⟨k+1,by omega,by go_num,SD,ry,HZ.out⟩
     case measure=>simp[intOf];omega
    ·obtain rfl:k=f.r.length:=by omega
     rw[Ma.out]at eS T;obtain⟨C,rfl⟩:∃C,C=wr:=⟨_,rfl⟩;have Uy:V.heap.size<=C.heap.size:=lT Pl F.size;have oU9:=Ml.out.kept Uy fun b _ _ I=>R b I;have oM9:=Ub.out.kept Uy fun b _ _ I=>R b I;have jy:=pH _ _ uc mc f.c f.m C oU9.c3 oM9.c3 QV.out;have VN:f.m.length=N:=by have:=iP QV.out;have:=P.out;omega
     rw[P.out,VN]at jy;have UL:=aA jy;have WY:=fun(W:World) (d:W.heap[v]?=C.heap[v]?)=>hu W (d.trans (R v Fe));have GS:Hid (Bl w C):=UF.out.trans (F.below (lT Mb.out Pl) fun x q=>by have:=Mb.out;omega);clear jy oU9 oM9 Ml Ub E HV UG xo Ma Um Ry R VN;go_wp2_with fail;refine UL.out.mono ?_;rintro e U ⟨u,rfl,oC,we⟩;obtain⟨ca,cp,e,_⟩:=oC.shape;subst e;obtain⟨gk,ok,rfl,Y5,me⟩:=rdB oC.c3 (by rw[fD];omega);rw[fD]at me |-;have E5:=eS.of (we.block _ eS.lt);have FV:=T.of (we.block _ T.lt);have G1:v<C.heap.size:=by omega
     have XU:Hid (∀W,Bl U W->∀k,k<N->W.cell? (aD gc k)=some (iV (f.c.getD k 0))/\W.cell? (aD v (ou+k))=some (iV (f.c.getD k 0))/\W.cell? (aD gk (ok+k))=some (iV (cls k (f.c.getD k 0) (f.m.getD k 0)))/\W.cell? (aD gs k)=some (iV ((sn f.c).getD k 0))):=fun W d k r=>by
      refine⟨eD (E5.of (d.block _ E5.lt)) (by rw[P.out];exact r),WY W ((d.block v (lL G1 we.size)).trans (we.block v G1)) k r,?_,eD (FV.of (d.block _ FV.lt)) (by rw[aKL,P.out];exact r)⟩;have:=me W (d.block gk Y5) k r;rw[aHX _ _ _ _ r]at this;exact this
     have Lt:=aA (GS.out.trans (we.mono GS.out.size));clear eS T F hu WY E5 FV me oC we UL GS UF QV;go_wp2;go_loopw [25] (fun i wr=>∃k:Nat,k<=N/\i=iV k/\Bl U wr) (fun i _=>N -(intOf i).toNat)
     case atStart=>exact⟨0,Nat.zero_le _,rfl,bQ _ _⟩
     case round=>
      obtain⟨k,r,rfl,t⟩:=hrel;have lj:=t.size;by_cases G:k<N
      ·have jl:(k:Int) <(N:Int):=by omega
       obtain⟨x1,x2,x3,x4⟩:=XU.out wr t k G;have fw:=GU.out k;generalize cls k (f.c.getD k 0) (f.m.getD k 0)=cv at *;generalize (sn f.c).getD k 0=sv at *;generalize f.c.getD k 0=x at *;obtain⟨bb,EA⟩:=eZ ((sv == 1));rw[EA]at fw;cases bb with
       | true=>
        go_wp2
        go_quiet (fail)
        go_wp2
        go_roundw
        case rel=>exact⟨k+1,by omega,by go_num,t.trans ((below_drewN _ _).mono lj)⟩
        case measure=>simp[intOf];omega
       | false=>
        go_wp2
        go_quiet (fail)
        go_wp2
        go_roundw
        case rel=>exact⟨k+1,by omega,by go_num,t.trans ((below_drewN _ _).mono lj)⟩
        case measure=>simp[intOf];omega
      ·have z:=aA (Lt.out.trans (t.mono Lt.out.size))
       clear t;go_wp2;go_ret;exact⟨rfl,z.out⟩
end Go.Proofs.YtmpagpeenjddgaaGreat
namespace Go.Proofs.YtmpagpeenjddgaaGreat
open Go.RowKit
theorem aLS(a0:Option Addr)(a:Nat)(zs:List Int)(w:World)(c:Bts w (.slice a0 zs.length a) zs)(l:zs.length<=9223372036854775807):
  Calls Tryz.prog 3 #[.slice a0 zs.length a] w fun e w'=>e=.returned (.bool true)/\Bl w w':=by
 by_cases h:zs.length<=1048576
 ·refine aIF a0 a zs w c h fun d b off e=>?_
  obtain⟨_,_,q,i⟩:=c.shape;cases q;obtain⟨k,f,rfl,g⟩:=i d;cases e;exact World.block_lt_of_cell? _ _ (g 0 d)
 ·have j:(1048576:Int) <(zs.length:Int):=by omega
  clear c;go_enter Tryz.func3,Tryz.ntmps3;go_wp2_with fail;go_ret;exact⟨rfl,bQ _ _⟩
end Go.Proofs.YtmpagpeenjddgaaGreat
namespace Go.Proofs.YtmpagpeenjddgaaGreat.fnDegrees
open Go.ChangeShapes Go.WideShapes Go.ChangeAt Go.RowKit
theorem lifted(r:Os)(a:r.Started)(H:Type)(enc:TypeId×Value->H):
  ReturnsInHanded {} Tryz.checked r 3 .any (Rows.fnDegreesSpec.pre6 enc Tryz.prog Tryz.f3 Rows.fnDegreesRow.domain false) (Rows.fnDegreesSpec.post enc Tryz.prog Tryz.f3 false true false false):=by
 refine returnsInHanded_of_change (C:=Tryz.checked) ownQ a (by kernel_rfl) Tryz.func3
  (ChangeSpec.witness6 (enc:=enc) (C:=Tryz.checked) false ⟨#[],#[.slice none 0 0],[]⟩ 8 (by kernel_rfl) (by kernel_rfl) (by kernel_rfl) (by kernel_rfl)) ?_
 intro W base args w Q c g n O _;have f:∀(j:Nat) t v,Tryz.f3.params[j]?=some t->args[j]?=some v->Value.okWide Tryz.prog W .any base t v:=g;have u:=n;obtain⟨p,q,i,z,rfl,K,J⟩:=n;have l:DataW.TrodAll enc Tryz.prog W 0 (fun _=>true) true Tryz.f3.params.toList args.toList w p:=i;rw[Tryz.params3]at l f;obtain⟨s,G,P,y,F,R,M,rfl,rfl,k,r0⟩:=trodAll_cons l;obtain⟨rfl,rfl,rfl⟩:=trodAll_nil r0;obtain rfl:args=#[s]:=by cases args;simp_all
 obtain⟨rfl,rfl⟩:=trodVars_none z;have o:=k;have d:∀x∈F,x.block<W.heap.size:=by obtain⟨m,B⟩:=o;exact DataW.trod_lt m _ _ _ B
 obtain⟨a0,E,I,rfl,L,D⟩:=aEW (f 0 22 s rfl rfl) k;clear i g;refine(aLS a0 E I W D (by omega)).mono fun e N ⟨A,b⟩=>?_;subst A;exact⟨_,rfl,_,_,_,[],_,[],u,trodAll_mk1 (shut_bool Tryz.underlying4 _),(trodAll_cons_mk (Below.trod laidOut (by kernel_rfl) (of_decide_eq_true (by kernel_rfl)) o b d) trodAll_mk0),rfl,b.frame _,fun h=>by cases h⟩
theorem over:Rows.fnDegreesRow.holds Tryz.pinned (OpenSpec.ofChange Rows.fnDegreesSpec):=
 OpenClaim.holds_of_wide 3 Tryz.f3 rfl rfl rfl rfl rfl rfl rfl ⟨rfl,rfl,rfl,rfl,rfl⟩ rfl rfl rfl rfl rfl (by kernel_rfl) Tryz.func3 (by kernel_rfl)
  (of_decide_eq_true (by kernel_rfl)) (by unfold Func.isWrapper;first | (rw[if_pos (by decide +kernel)];kernel_rfl) | (rw[if_neg (by decide +kernel)];exact⟨rfl,rfl⟩))
  (fun b a H enc _=>lifted b a H enc)
theorem proved:Rows.FnDegreesSaid:=over
end Go.Proofs.YtmpagpeenjddgaaGreat.fnDegrees
