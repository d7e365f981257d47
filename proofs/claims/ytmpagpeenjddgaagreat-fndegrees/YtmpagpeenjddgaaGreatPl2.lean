import Derived.Test.YtmpagpeenjddgaaGreatFr2
set_option maxHeartbeats 9999999
set_option maxRecDepth 99999
set_option linter.all false
namespace Go.Proofs.YtmpagpeenjddgaaGreat
open Go.RowKit Go.Shelf
attribute [local go_sem] Oper.semAt_some
theorem zJ(F:Fence)(n:Nat)(hW:∀{n f args w R},Calls Tryz.prog f args w R->CallsIn F n Tryz.prog f args w R)(L:∀f,F.fn f)(db:F.round=none)(hn:3<=n)(a y:Option Addr)(c z:Nat)(zs ys:List Int)(w:World)(V:Nts w (.slice a zs.length c) zs)(q8:Nts w (.slice y ys.length z) ys)(iw:chk [zs,ys]=0):
  CallsIn F n Tryz.prog 129 #[.slice a zs.length c,.slice y ys.length z] w fun e w'=>∃u v,e=.returned (.tuple #[u,v,iV (plC zs ys)])/\dJ w.heap.size w' u (plP zs ys)/\fK w.heap.size w' v (plR zs ys)/\Bl w w':=by
 obtain⟨hl,dw,jg⟩:=iP iw;have hz:=(rM dw).1;have HL:Hid (ys.length=zs.length):=hl.symm;have qe:1<=n:=by omega
 clear dw jg hl;have g1:=L 22;have g2:=L 131;have g3:=L 113;refine callsIn_of_wp_marks Tryz.func129 rfl (L _) ?_ db;simp only[Tryz.ntmps129,List.size_toArray,List.length_cons,List.length_nil,Nat.reduceAdd,Nat.reduceSub,Array.replicate_succ,Array.replicate_zero,List.push_toArray,List.append_toArray,List.nil_append,List.cons_append];gi_wp2_with fail;have b0:=((Boxed.new w 29 (.slice none 0 0)).alloc (.cells #[.slice none 0 0] 81)).alloc (.cells #[iV 0] 2);have b1:=(Boxed.new (w.alloc (.cells #[.slice none 0 0] 29)) 81 (.slice none 0 0)).alloc (.cells #[iV 0] 2);have b2:=Boxed.new ((w.alloc (.cells #[.slice none 0 0] 29)).alloc (.cells #[.slice none 0 0] 81)) 2 (iV 0);simp only[World.size_alloc]at b1 b2;have P:Bl w (((w.alloc (.cells #[.slice none 0 0] 29)).alloc (.cells #[.slice none 0 0] 81)).alloc (.cells #[iV 0] 2)):=(((bQ _ w).alloc (nR _) _).alloc (by simp) _).alloc (by simp;omega) _;refine(hW (kL _ [zs,ys] _ (LRd.two (V.below P) (q8.below P) _ _ (by simp)) (by simp) (by simp) (wC (by omega) (by rw[HL.out];omega)))).mono ?_;rintro e w1 ⟨rfl,bx⟩;rw[iw];have r0:=(b0.alloc (.cells #[.slice a zs.length c,.slice y ys.length z] 29));have r1:=(b1.alloc (.cells #[.slice a zs.length c,.slice y ys.length z] 29));have r2:=(b2.alloc (.cells #[.slice a zs.length c,.slice y ys.length z] 29));have Q:=P.trans ((iO _ (.cells #[.slice a zs.length c,.slice y ys.length z] 29)).mono P.size);rw[bx]at r0 r1 r2 Q;have d8:w.heap.size+3<w1.heap.size:=by rw[<-bx];simp
 clear bx b0 b1 b2 P;gi_wp2_with fail;refine(hW (pY _ _ zs _ (by omega) (by omega) (V.below Q))).mono ?_;rintro e A ⟨u,rfl,je,N⟩;obtain⟨g,d,rfl⟩:∃g d,u=sL g 0 zs.length d:=by
  obtain⟨m,hm⟩:∃m,zs.length=m+1:=⟨zs.length-1,by omega⟩;have ni:=je;unfold dJ at ni;rw[hm]at ni |-;exact ownsRow_succ ni
 gi_wp2_with (gi_at_call 113;refine(jH F (n-1) g3 db _ _ _ ⟨_,_,_,rfl⟩ ⟨_,_,_,rfl⟩).mono ?_;rintro e w' ⟨rfl,rfl⟩)
 have Eh:=je.own V.small;obtain⟨lw,yf⟩:w1.heap.size<=g/\g<A.heap.size:=by
  have:=World.ownsRow.lt je g rfl
  exact this
 have sd:bE g (g+1) A (sL g 0 zs.length d) zs:=by
  obtain⟨_,_,S,hs⟩:=Eh.shape;refine⟨V.small,_,_,rfl,fun hp=>?_⟩;simp only[Value.slice.injEq,true_and]at S;obtain⟨rfl,rfl⟩:=S;obtain⟨_,_,S,_,_,h3,h4⟩:=hs hp;simp only[sJ,Addr.mk.injEq,and_true]at S;obtain⟨rfl,rfl⟩:=S;exact⟨g,0,rfl,nR _,Nat.lt_succ_self _,h3,h4⟩
 have bC:=Boxed.new A 29 (sL g 0 zs.length d);have bP:=Boxed.new (A.alloc (.cells #[sL g 0 zs.length d] 29)) 29 (.slice none 0 0);have bS:=Boxed.new ((A.alloc (.cells #[sL g 0 zs.length d] 29)).alloc (.cells #[.slice none 0 0] 29)) 29 (.slice a zs.length c);have bT:=Boxed.new (((A.alloc (.cells #[sL g 0 zs.length d] 29)).alloc (.cells #[.slice none 0 0] 29)).alloc (.cells #[.slice a zs.length c] 29)) 29 (.slice y ys.length z);simp only[World.size_alloc]at bP bS bT;have J:Bl A ((((A.alloc (.cells #[sL g 0 zs.length d] 29)).alloc (.cells #[.slice none 0 0] 29)).alloc (.cells #[.slice a zs.length c] 29)).alloc (.cells #[.slice y ys.length z] 29)):=((((bQ _ A).alloc (nR _) _).alloc (by simp) _).alloc (by simp;omega) _).alloc (by simp;omega) _;have xq:=Q.trans (N.mono Q.size);have lh:PlS w A.heap.size g d (.slice a zs.length c) (.slice y ys.length z) zs [] (.slice none 0 0) ((((A.alloc (.cells #[sL g 0 zs.length d] 29)).alloc (.cells #[.slice none 0 0] 29)).alloc (.cells #[.slice a zs.length c] 29)).alloc (.cells #[.slice y ys.length z] 29)):=
  ⟨(bP.alloc _).alloc _,World.ownsRow_nil _ _ _ _,((bC.alloc _).alloc _).alloc _,sd.below J,cD (cD r0 N) J,cD (cD r1 N) J,cD (cD r2 N) J,bS.alloc _,bT,xq.trans (J.mono xq.size)⟩
 have M6:=lh.bk;have aw:((((A.alloc (.cells #[sL g 0 zs.length d] 29)).alloc (.cells #[.slice none 0 0] 29)).alloc (.cells #[.slice a zs.length c] 29)).alloc (.cells #[.slice y ys.length z] 29)).heap.size=A.heap.size+4:=by simp
 obtain⟨W3,C7⟩:=eZ (((((A.alloc (.cells #[sL g 0 zs.length d] 29)).alloc (.cells #[.slice none 0 0] 29)).alloc (.cells #[.slice a zs.length c] 29)).alloc (.cells #[.slice y ys.length z] 29)));rw[C7]at lh M6 aw |-;have ny:Hid (W3.heap.size=A.heap.size+4):=aw;have hww2:=xq.size;generalize hs:A.heap.size=s at *;have On:s<=W3.heap.size:=by omega
 have vq:w.heap.size+3<s:=by omega
 have yg:w.heap.size+3<g:=by omega
 clear C7 bC bP bS bT J xq Eh sd je N r0 r1 r2 aw hs Q;refine wpIn_rangeFunc_ownF db qe (gf:=133) (lb:=#[pT (s+1+1) 0,pT (s+1+1+1) 0]) rfl (L _) (enters_of Tryz.func133 (by kernel_rfl) rfl)
  (mU F (n-1) (L _) db (by omega) (s+1+1) (s+1+1+1) w.heap.size a y c z zs ys HL.out (by omega) (by omega) W3 (by have:=ny.out;omega) (by have:=ny.out;omega) (by omega) lh.bs.cell lh.bt.cell w V q8 (by omega) M6) KpF.trans (KpF.put (by omega) (by have:=ny.out;omega) (by have:=ny.out;omega)) (bQ _ _) (fun _=>rfl)
  (fun b W=>(∃v,PlS w s g d (.slice a zs.length c) (.slice y ys.length z) zs b v W)/\∀j,j<b.length->good zs (b.take (j+1))=false)
  (fun k b W=>PlE w s zs b W/\(k=.ret/\∃(p:List (Blk zs.length)) (x:Blk zs.length),b=p++[x]/\good zs b=true/\∀j:Nat,j<p.length->good zs (p.take (j+1))=false))
  (fun x X Y I T hg U=>⟨aML (by omega) x X Y I T.1 hg (fun r e=>⟨lT On (U r e).1,(U r e).2⟩),T.2⟩)
  (fun k x X Y I T hg U=>⟨aMK (by omega) x X Y I T.1 hg (fun r e=>⟨lT On (U r e).1,(U r e).2⟩),T.2⟩)
  ⟨⟨_,lh⟩,fun j hj=>by simp at hj⟩
  (fun x=>{tmps:=#[.slice a zs.length c,.slice y ys.length z,undef,undef,pT w.heap.size 0,pT (w.heap.size+1) 0,pT (w.heap.size+1+1) 0,iV 0,pT s 0,pT (s+1) 0,iV (x.1:Int),undef,.slice a zs.length c,.slice y ys.length z,sL (w.heap.size+1+1+1) 0 2 2,iV 0,iV 0,.bool false,undef,.slice a zs.length c,sL g 0 zs.length d,.slice a zs.length c,.slice y ys.length z,.func (.func 133) #[] #[pT (s+1+1) 0,pT (s+1+1+1) 0],iV (x.1:Int),undef,undef,undef,undef,undef,undef,undef,undef,undef,undef,undef,undef,undef,undef,undef,undef,undef],defers:=[]}) ?assign ?body ?done ?stop
 case assign=>
  intro l x W K B;gi_wp2;exact B
 case body=>
  rintro l b x W ⟨⟨v,o⟩,G⟩ WM;obtain⟨i0,hi,jw,ix,Ae⟩:=info_parts pI;have Hl:s<=W.heap.size:=by have:=o.b6.lt;omega
  have AG:=x.2.1;have q9:=x.2.2;have QE:(x.1:Int) <(zs.length:Int):=by omega
  have mi:s≠s+1:=by omega
  have G8:g≠s+1:=by omega
  have ZY:g≠s:=by omega
  have AS:=o.dd.cell;obtain⟨va,vc,rfl⟩:∃va vc,v=.slice va b.length vc:=by
   rcases o.row.2 with⟨e,e2⟩ | ⟨gg,cc,cu,e,_⟩
   ·exact⟨none,0,by rw[e,e2]⟩
   ·exact⟨_,_,e⟩
  gi_wp2_with (gi_at_builtin;refine wpListIn_append_own _ rfl _ _ 29 rfl s 2 i0 (iV 0) 1 8 Tryz.underlying29 hi jw ix Ae rfl (by decide) _ _ _ rfl (World.ownsRow.alloc o.row _) ⟨W.heap.size,0,none⟩ 1 1 [iV (x.1:Int)] rfl rfl (cell_one_new _ _ _) (by simp[Value.oneCell']) (by unfold maxLen;omega) (by omega) (by simp;omega) ?_;intro v' w4 ui lm _;obtain⟨g',O,rfl⟩:=ownsRow_succ ui;obtain⟨p1,-⟩:=o.appended vq yf yg ui lm;have dw:=p1.cell;have qz:=p1.frozen;obtain⟨m1,m2,m3⟩:=o.eo x yf lm)
  obtain⟨E,B,RH⟩:=o.next vq yf yg ui lm;obtain⟨W5,C8⟩:=eZ (((w4.setCell (aD (s+1) 0) (sL g' 0 (b.length+1) O)).setCell (aD g x.1) (iV 1)));rw[C8]at E B RH |-;have ah:=qG zs (b++[x]);have VI:=o.kp E RH;clear C8 ui lm AS dw qz m1 m2 m3 p1 o;refine⟨fun _=>by omega,(CallsIn.inRound l (hW (aCM _ (nB zs (b++[x])) _ E.ek.c3 (by omega)))).mono ?_⟩;rintro e w5 ⟨u,rfl,C4,M⟩;rw[ah]at C4;have Gm:fK W5.heap.size w5 u (rnO zs (b++[x])):=C4;obtain⟨ua,uc,rfl⟩:=Gm.shape;have C:=aGF E M;have C1:=B.trans (oF M);have Ra:=VI.trans ⟨M.mono (by have:=E.bk.size;omega),M.block _ E.bs.lt,M.block _ E.bt.lt⟩;have GI:s<=W5.heap.size:=by have:=E.b6.lt;omega
  have ut:=tT zs (b++[x]);have c1:=C.dd.cell;have ZV:IntKind.i64.wrap (20*((b.length+1:Nat):Int))=((20*(b.length+1):Nat):Int):=(IntWalk.i64_in _ ⟨by omega,by omega⟩).trans (by omega);clear C4 E B VI RH M ah;by_cases H:good zs (b++[x])=true
  ·have q7:(rnO zs (b++[x])).length<=20*(b.length+1):=by simpa [good] using H
   have TE:((rnO zs (b++[x])).length:Int)<=((20*(b.length+1):Nat):Int):=by omega
   have d0:=C.r0.cell;have d1:=C.r1.cell;have d2:=C.r2.cell;have e0:=C.r0.frozen;have e1:=C.r1.frozen;have e2:=C.r2.frozen;have QY:Hid _:=C.ends vq Gm GI;have n1:w.heap.size≠w.heap.size+1:=by omega
   have n2:w.heap.size≠w.heap.size+1+1:=by omega
   have n3:w.heap.size+1≠w.heap.size+1+1:=by omega
   have HG:Hid (good zs (b++[x])=true):=H;have HN:Hid (∀j:Nat,j<b.length->good zs (b.take (j+1))=false):=G;clear H G q7 Gm C;gi_wp2;exact⟨((C1.trans (KeepsOthers.setCell _ _ _)).trans (KeepsOthers.setCell _ _ _)).trans (KeepsOthers.setCell _ _ _),QY.out,rfl,b,x,rfl,HG.out,HN.out⟩
  ·have AU:good zs (b++[x])=false:=by simpa using H
   have q7:¬(rnO zs (b++[x])).length<=20*(b.length+1):=by simpa [good] using H
   have TE:¬((rnO zs (b++[x])).length:Int)<=((20*(b.length+1):Nat):Int):=by omega
   have HG:Hid _:=aFN G AU;generalize (rnO zs (b++[x])).length=rl at *;clear H AU G q7 Gm;gi_wp2;exact⟨C1,Ra,⟨_,C⟩,HG.out⟩
 case done=>
  rintro D xs W hD rfl ⟨⟨v,o⟩,G⟩ B;obtain⟨f1,f2,f3⟩:=xL iw (tK G);have d0:=o.r0.cell;have d1:=o.r1.cell;have d2:=o.r2.cell;have e0:=o.r0.frozen;have e1:=o.r1.frozen;have e2:=o.r2.frozen;have n1:w.heap.size≠w.heap.size+1:=by omega
  have n2:w.heap.size≠w.heap.size+1+1:=by omega
  have n3:w.heap.size+1≠w.heap.size+1+1:=by omega
  gi_wp2
  have k1:=(KeepsOthers.setCell W ⟨w.heap.size,0,none⟩ (.slice none 0 0)).same D _ B rfl;have k2:=(KeepsOthers.setCell (W.setCell (aD w.heap.size 0) (.slice none 0 0)) ⟨w.heap.size+1,0,none⟩ (.slice none 0 0)).same D _ k1 rfl;have Z:=(KeepsOthers.setCell ((W.setCell (aD w.heap.size 0) (.slice none 0 0)).setCell (aD (w.heap.size+1) 0) (.slice none 0 0)) ⟨w.heap.size+1+1,0,none⟩ (iV 7)).same D _ k2 rfl;refine⟨by simp,.inl ⟨_,_,rfl,run_takeDeferred Z,?_⟩⟩;have RN:w.heap.size<=D:=by omega
  have x0:Boxed (((W.setCell (aD w.heap.size 0) (.slice none 0 0)).setCell (aD (w.heap.size+1) 0) (.slice none 0 0)).setCell (aD (w.heap.size+1+1) 0) (iV 7)) w.heap.size 29 (.slice none 0 0):=((o.r0.set _).other n1 _).other n2 _;have x1:Boxed (((W.setCell (aD w.heap.size 0) (.slice none 0 0)).setCell (aD (w.heap.size+1) 0) (.slice none 0 0)).setCell (aD (w.heap.size+1+1) 0) (iV 7)) (w.heap.size+1) 81 (.slice none 0 0):=((o.r1.other (Ne.symm n1) _).set _).other n3 _;have x2:Boxed (((W.setCell (aD w.heap.size 0) (.slice none 0 0)).setCell (aD (w.heap.size+1) 0) (.slice none 0 0)).setCell (aD (w.heap.size+1+1) 0) (iV 7)) (w.heap.size+1+1) 2 (iV 7):=((o.r2.other (Ne.symm n2) _).other (Ne.symm n3) _).set _;have y0:=cell_kept x0.cell (grownBy_putObj' _ D (.deferred none)) (fun r e=>by cases e;exact⟨_,Z,rfl⟩);have y1:=cell_kept x1.cell (grownBy_putObj' _ D (.deferred none)) (fun r e=>by cases e;exact⟨_,Z,rfl⟩);have y2:=cell_kept x2.cell (grownBy_putObj' _ D (.deferred none)) (fun r e=>by cases e;exact⟨_,Z,rfl⟩);refine⟨.tuple #[.slice none 0 0,.slice none 0 0,iV 7],?_,.slice none 0 0,.slice none 0 0,by rw[f3],by rw[f1];exact dJ.start _ _,by rw[f2];exact fK.start _ _,?_⟩
  ·simp[results,Tryz.f129,go_sem,y0,y1,y2]
  ·exact(((o.bk.setCell (p:=aD w.heap.size 0) (nR _) _).setCell (p:=aD (w.heap.size+1) 0) (by show w.heap.size<=w.heap.size+1;omega) _).setCell (p:=aD (w.heap.size+1+1) 0) (by show w.heap.size<=w.heap.size+1+1;omega) _).trans (belowK_b (w:=w) (nR _) _ D _ _ RN Z rfl rfl)
 case stop=>
  rintro D k b W hD ⟨q,hq,mj⟩ ⟨⟨p0,q0,h0,h1,h2,h3,h4,h5⟩,rfl,p,x,WO,H,G⟩ B;have tj:b.length=p.length+1:=by rw[WO];simp
  have FD:(frs zs ys zs.length zs.length).take (p.length+1)=b:=by
   obtain⟨t,ht⟩:=sM zs ys zs.length hq;rw[<-ht,<-mj,List.take_append_of_le_length (by omega),List.take_of_length_le (by omega)]
  have sj:p.length <(frs zs ys zs.length zs.length).length:=by
   have h:=congrArg List.length FD;rw[List.length_take,tj]at h;omega
  have Ip:lI zs ys=some p.length:=tL sj (by rw[FD];exact H) fun i hi=>by
   have h:(frs zs ys zs.length zs.length).take (i+1)=p.take (i+1):=by
    have h2:=congrArg (List.take (i+1)) FD;rw[List.take_take,Nat.min_eq_left (by omega)]at h2;rw[h2,WO,List.take_append_of_le_length (by omega)]
   rw[h];exact G i hi
  obtain⟨f1,f2,f3⟩:=xM iw Ip;rw[FD]at f1 f2;gi_wp2;refine⟨by simp,.inl ⟨_,_,rfl,run_takeDeferred B,?_⟩⟩;have RN:w.heap.size<=D:=by omega
  have y0:=cell_kept h0.cell (grownBy_putObj' _ D (.deferred none)) (fun r e=>by cases e;exact⟨_,B,rfl⟩);have y1:=cell_kept h1.cell (grownBy_putObj' _ D (.deferred none)) (fun r e=>by cases e;exact⟨_,B,rfl⟩);have y2:=cell_kept h2.cell (grownBy_putObj' _ D (.deferred none)) (fun r e=>by cases e;exact⟨_,B,rfl⟩);have Ox:w.heap.size<=s:=by omega
  refine⟨.tuple #[p0,q0,iV 0],?_,p0,q0,by rw[f3],?_,?_,?_⟩
  ·simp[results,Tryz.f129,go_sem,y0,y1,y2]
  ·rw[f1]
   unfold dJ;have h:=tW (ownsRow_putObj h3 (.deferred none) B rfl) Ox;rw[List.length_map,List.map_map];exact h
  ·rw[f2]
   exact tW (ownsRow_putObj h4 (.deferred none) B rfl) Ox
  ·exact h5.trans (belowK_b (w:=w) (nR _) _ D _ _ RN B rfl rfl)
theorem wX(a b:Option Addr)(c d:Nat)(zs ys:List Int)(w:World)(f:Nts w (.slice a zs.length c) zs)(i:Nts w (.slice b ys.length d) ys)(g:chk [zs,ys]=0):
  Calls Tryz.prog 129 #[.slice a zs.length c,.slice b ys.length d] w fun e w'=>∃u v,e=.returned (.tuple #[u,v,iV (plC zs ys)])/\dJ w.heap.size w' u (plP zs ys)/\fK w.heap.size w' v (plR zs ys)/\Bl w w':=
 (callsIn_wide (n:=3)).1 (zJ Fence.wide 3 (fun h=>callsIn_wide.2 h) (fun _=>trivial) rfl (nR _) a b c d zs ys w f i g)
end Go.Proofs.YtmpagpeenjddgaaGreat
namespace Go.Proofs.YtmpagpeenjddgaaGreat
open Go.RowKit
theorem aKS(zs:List Int)(k:Nat)(h:k<zs.length):zs.take (k+1)=zs.take k++[zs.getD k 0]:=by
 rw[List.take_succ_eq_append_getElem h];simp[h]
theorem uD{zs:List Int}(h:∀i,-9223372036854775808<=zs.getD i 0/\zs.getD i 0<=9223372036854775807)(k i:Nat):-9223372036854775808<=(zs.take k).getD i 0/\(zs.take k).getD i 0<=9223372036854775807:=by
 have:=h i
 simp only[gD,List.getElem?_take]at this |-;by_cases a:i<k
 ·rw[if_pos a];exact this
 ·rw[if_neg a];simp
theorem bE.take{lo hi:Nat}{w:World}{a:Option Addr}{n cap:Nat}{zs:List Int}(h:bE lo hi w (.slice a n cap) zs)(k:Nat)(r:k<=n):bE lo hi w (.slice a k cap) (zs.take k):=by
 obtain⟨_,_,d,q⟩:=h.shape;simp only[Value.slice.injEq]at d;obtain⟨rfl,rfl,rfl⟩:=d;have c:(zs.take k).length=k:=by simp;omega
 refine⟨uD h.small k,a,cap,by rw[c],fun p=>?_⟩;rw[c]at p;obtain⟨b,off,m,g,j,l,o⟩:=q (by omega);refine⟨b,off,m,g,j,l,fun i hi=>?_⟩;rw[c]at hi;obtain⟨e,f⟩:=o i (by omega);refine⟨?_,f⟩;rw[e];simp only[gD,List.getElem?_take,if_pos hi]
theorem aMB(zs ys:List Int)(i:Nat)(h:i <(frs zs ys zs.length zs.length).length):(frI zs ys zs.length zs.length).getD i 0=(((frs zs ys zs.length zs.length)[i]'(h)).1:Int):=by
 simp[frI,h]
theorem aIW(zs ys:List Int)(i:Nat)(h:i <(frs zs ys zs.length zs.length).length):(frs zs ys zs.length zs.length).take (i+1)=(frs zs ys zs.length zs.length).take i++[(frs zs ys zs.length zs.length)[i]'(h)]:=List.take_succ_eq_append_getElem h
theorem aDT(zs ys:List Int):(frI zs ys zs.length zs.length).length=(frs zs ys zs.length zs.length).length:=by simp[frI]
theorem bE.dg{lo hi:Nat}{w:World}{a:Option Addr}{n cap:Nat}{zs:List Int}(h:bE lo hi w (.slice a n cap) zs)(j:Nat)(d:j<n)(x:Int)(hx:-9223372036854775808<=x/\x<=9223372036854775807):
  ∃b off,a=some ⟨b,off,none⟩/\lo<=b/\b<hi/\w.cell? (aD b (off+j))=some (iV (zs.getD j 0))/\w.frozen? (aD b (off+j))=false/\
   bE lo hi (w.setCell (aD b (off+j)) (iV x)) (.slice a n cap) (zs.set j x)/\Upd lo hi w (w.setCell (aD b (off+j)) (iV x)):=by
 have g:=h;obtain⟨_,_,c,m⟩:=g.shape;simp only[Value.slice.injEq]at c;obtain⟨rfl,rfl,rfl⟩:=c;obtain⟨b,off,rfl,i,k,q,l⟩:=m (by omega);obtain⟨e,f⟩:=l j d;obtain⟨o,p⟩:=h.stored j d x hx;exact⟨b,off,rfl,i,k,e,f,o,p⟩
theorem aCA(a a':Option Addr)(c c':Nat)(zs ys:List Int)(w:World)(O:Nts w (.slice a zs.length c) zs)(q8:Nts w (.slice a' ys.length c') ys)(iw:chk [zs,ys]=0):
  Calls Tryz.prog 43 #[.slice a zs.length c,.slice a' ys.length c'] w fun e w'=>∃a0 c0 a1 c1 l0 h0 l1 h1,e=.returned (.tuple #[.slice a0 (plP zs ys).length c0,.slice a1 (plR zs ys).length c1,iV (plC zs ys)])/\w.heap.size<=l0/\h0<=w'.heap.size/\w.heap.size<=l1/\h1<=w'.heap.size/\(h0<=l1\/h1<=l0)/\bE l0 h0 w' (.slice a0 (plP zs ys).length c0) (plP zs ys)/\aHI l1 h1 w' (.slice a1 (plR zs ys).length c1) (plR zs ys)/\Bl w w':=by
 obtain⟨hl,dw,jg⟩:=iP iw;have hz:=(rM dw).1;have HL:Hid (ys.length=zs.length):=hl.symm;obtain⟨_,_,F,H⟩:=O.shape;simp only[Value.slice.injEq,true_and]at F;obtain⟨rfl,rfl⟩:=F;obtain⟨b,off,rfl,aa⟩:=H (by omega);have nm:b<w.heap.size:=World.block_lt_of_cell? _ _ (aa 0 (by omega));have mw:=O.small;clear dw jg hl H;go_enter Tryz.func43,Tryz.ntmps43;go_wp2_with fail;refine(sT _ _ _ _ zs ys _ O q8 HL.out (by omega) (by omega)).mono ?_;rintro e w1 ⟨u,rfl,Q,ao⟩;obtain⟨E,l,rfl⟩:=Q.shape;have J:=Q.own (fun i=>aFL zs ys _ _ i (by omega));have d8:=ao.size;have Nt:(frI zs ys zs.length zs.length).length<=l:=by
  rcases Q.2 with⟨e,e2⟩ | ⟨gg,cc,cu,e,_,_,h3,_⟩
  ·simp only[Value.slice.injEq]at e;omega
  ·simp only[Value.slice.injEq]at e;omega
 have sj:=sI zs ys zs.length zs.length;have K:=aDT zs ys;rw[K]at sj Nt;rw[K]at J;rw[K];clear Q O q8;obtain⟨m,o⟩:∃m,Hid ((frs zs ys zs.length zs.length).length=m):=⟨_,rfl⟩;rw[o.out]at sj J K Nt;rw[o.out];go_wp2;go_loopw [8] (fun i wr=>∃k:Nat,1<=k/\k<=m+1/\i=iV k/\bE w.heap.size w1.heap.size wr (.slice E m l) (frI zs ys zs.length zs.length)/\Bl w wr/\w1.heap.size<=wr.heap.size/\∀j,j+1<k->good zs ((frs zs ys zs.length zs.length).take (j+1))=false) (fun i _=>m+1 -(intOf i).toNat)
 case atStart=>exact⟨1,nR _,by omega,rfl,J,ao,nR _,fun j G=>by omega⟩
 case round=>
  obtain⟨k,ie,hk,rfl,N,t,Ox,y⟩:=hrel;obtain⟨n,rfl⟩:∃n,n=wr:=⟨wr,rfl⟩;clear J ao;by_cases ai:k<=m
  ·have BM:(k:Int)<=(m:Int):=by omega
   have aw:=t.size;go_wp2;go_loopw [9,10] (fun u i d=>∃j:Nat,j<=zs.length/\i=iV j/\dJ n.heap.size d u (zs.take j)/\Bl n d) (fun _ i _=>zs.length -(intOf i).toNat)
   case atStart=>exact⟨0,Nat.zero_le _,rfl,dJ.lit _ _ (nR _) _ rfl,iO _ _⟩
   case round=>
    obtain⟨j,G,rfl,M,g⟩:=hrel;obtain⟨d,rfl⟩:∃d,d=wr:=⟨wr,rfl⟩;obtain⟨ua,uc,Fd⟩:=M.shape;have s:(zs.take j).length=j:=by simp;omega
    rw[s]at Fd;subst Fd;have eu:=g.size;by_cases V:j<zs.length
    ·have g1:d.cell? (aD b (off+j))=some (iV (zs.getD j 0)):=(g.cell (p:=aD b (off+j)) (by show b<n.heap.size;omega)).trans ((t.cell (p:=aD b (off+j)) nm).trans (aa j V))
     have hi:(j:Int) <(zs.length:Int):=by omega
     have X:Hid (zs.take (j+1)=zs.take j++[zs.getD j 0]):=aKS zs j V;have SY:(zs.take j).length<8589934592:=by omega
     generalize zs.getD j 0=z at *;clear s;go_wp2_with (first | (at_builtin;refine kN rfl _ _ rfl _ M rfl rfl SY eu ?_;intro v' f ax bp BT So) | go_in);rw[<-X.out]at ax;go_roundw
     case rel=>exact⟨j+1,by omega,by go_num,ax,g.trans bp⟩
     case measure=>simp[intOf];omega
    ·have Z:j=zs.length:=by omega
     have T:bE n.heap.size d.heap.size d (.slice ua zs.length uc) zs:=by
      have h:=M.own (uD mw j);rw[Z,List.take_length]at h;exact h
     rw[Z];clear M s V G Z;go_wp2;go_loopw [11] (fun i f=>∃q:Nat,q<=k/\i=iV q/\bE n.heap.size d.heap.size f (.slice ua zs.length uc) (nB zs ((frs zs ys zs.length zs.length).take q))/\Upd n.heap.size d.heap.size d f) (fun i _=>k -(intOf i).toNat)
     case atStart=>exact⟨0,Nat.zero_le _,rfl,T,Upd.refl _ _ _⟩
     case round=>
      obtain⟨q,hq,rfl,S,A⟩:=hrel;obtain⟨f,rfl⟩:∃f,f=wr:=⟨wr,rfl⟩;have vq:=A.size;by_cases hlq:q<k
      ·have L:q <(frs zs ys zs.length zs.length).length:=by rw[o.out];omega
       have Zk:q<m:=by omega
       obtain⟨x,Y⟩:∃x,Hid ((frs zs ys zs.length zs.length)[q]'(L)=x):=⟨_,rfl⟩;have AG:=x.2.1;have q9:=x.2.2;have C:bE w.heap.size w1.heap.size f (.slice E m l) (frI zs ys zs.length zs.length):=(N.below g).upd A (.inl Ox);obtain⟨_,_,F,H⟩:=C.shape;simp only[Value.slice.injEq]at F;obtain⟨rfl,KU,rfl⟩:=F;obtain⟨fb,fo,rfl,qz,mr,Di,uo⟩:=H (by omega);have g1:=(uo q (by omega)).1;rw[aMB zs ys q L,Y.out]at g1;have pn:=S.dg x.1 q9 1 (by omega);obtain⟨lb,lo',rfl,ed,DG,c1,c2,Ou,Ov⟩:=pn;have X:Hid (nB zs ((frs zs ys zs.length zs.length).take (q+1))=(nB zs ((frs zs ys zs.length zs.length).take q)).set x.1 1):=by
        rw[aIW zs ys q L,vT,Y.out];rfl
       have vw:Hid _:=Ou;have pq:Hid _:=Ov;have fk:(q:Int) <(m:Int):=by omega
       have AW:(x.1:Int) <(zs.length:Int):=by omega
       have LF:(q:Int) <(k:Int):=by omega
       generalize (nB zs ((frs zs ys zs.length zs.length).take q)).getD x.1 0=cv at *;generalize x.1=xv at *;clear KU H uo C Ou Ov S T Y L;go_wp2;go_roundw
       case rel=>exact⟨q+1,by omega,by go_num,by rw[X.out];exact vw.out,A.trans pq.out⟩
       case measure=>simp[intOf];omega
      ·have Ob:q=k:=by omega
       subst Ob;have ah:=qG zs ((frs zs ys zs.length zs.length).take q);have s:((frs zs ys zs.length zs.length).take q).length=q:=by rw[List.length_take,o.out];omega
       have C:bE w.heap.size w1.heap.size f (.slice E m l) (frI zs ys zs.length zs.length):=(N.below g).upd A (.inl Ox);have bg:Bl w f:=(t.trans (g.mono t.size)).trans (A.below t.size (by omega));have YR:=g.size;clear N T hlq hq;go_wp2_with fail;refine(aCB _ _ _ S.c3 (by omega)).mono ?_;rintro e w4 ⟨u,rfl,mm,P⟩;rw[ah]at mm;have I:fK f.heap.size w4 u (rnO zs ((frs zs ys zs.length zs.length).take q)):=mm;obtain⟨ra,rc,rfl⟩:=I.shape;have kj:=C.below P;have Ew:=bg.trans (P.mono bg.size);have vt:=P.size;have ut:=tT zs ((frs zs ys zs.length zs.length).take q);have UW:Hid (good zs ((frs zs ys zs.length zs.length).take q)=decide ((rnO zs ((frs zs ys zs.length zs.length).take q)).length<=20*q)):=by unfold good;rw[s];rfl
       clear mm C S ah bg P g A;by_cases R:(rnO zs ((frs zs ys zs.length zs.length).take q)).length<=20*q
       ·have sk:lI zs ys=some (q-1):=tL (by rw[o.out];omega) (by rw[show q-1+1=q by omega,UW.out];exact decide_eq_true R) (fun i hi=>y i (by omega))
        obtain⟨B,r,D⟩:=xM iw sk;rw[show q-1+1=q by omega]at B r;have ez:=kj.take q (by omega);have Ta:(frI zs ys zs.length zs.length).take q=plP zs ys:=by rw[B,frI,List.map_take]
        rw[Ta]at ez;have tj:(plP zs ys).length=q:=by rw[<-Ta,List.length_take,aDT,o.out];omega
        have U:=I.own;have Si:((rnO zs ((frs zs ys zs.length zs.length).take q)).length:Int)<=20*(q:Int):=by omega
        rw[<-r]at U;have sq:Hid (plR zs ys=rnO zs ((frs zs ys zs.length zs.length).take q)):=r;have Qa:Hid (plC zs ys=0):=D;have Fk:Hid ((plP zs ys).length=q):=tj;have hqf:q<=l:=by omega
        have Zj:(q:Int)<=(l:Int):=by omega
        clear R sk B r D Ta tj kj I y s;go_wp2;refine bodyPost_ret (v:=.tuple #[.slice E q l,.slice ra (rnO zs ((frs zs ys zs.length zs.length).take q)).length rc,iV 0]) (by simp[results,Tryz.results43,go_sem]) rfl ⟨E,l,ra,rc,w.heap.size,w1.heap.size,f.heap.size,w4.heap.size,by rw[Qa.out,sq.out,Fk.out],nR _,by omega,by omega,nR _,.inl (by omega),by rw[Fk.out];exact ez,by rw[sq.out]at U |-;exact U,Ew⟩
       ·have AU:good zs ((frs zs ys zs.length zs.length).take q)=false:=by rw[UW.out];exact decide_eq_false R
        have Si:¬((rnO zs ((frs zs ys zs.length zs.length).take q)).length:Int)<=20*(q:Int):=by omega
        have XM:Hid (∀j,j+1<q+1->good zs ((frs zs ys zs.length zs.length).take (j+1))=false):=fun j G=>by
         by_cases e:j+1<q
         ·exact y j e
         ·rw[show j+1=q by omega];exact AU
        clear R AU I y s;go_wp2;go_roundw
        case rel=>exact⟨q+1,by omega,by omega,by go_num,kj,Ew,by omega,XM.out⟩
        case measure=>simp[intOf];omega
  ·have Dl:k=m+1:=by omega
   have Iq:lI zs ys=none:=tK fun j G=>y j (by rw[o.out]at G;omega);obtain⟨B,r,D⟩:=xL iw Iq;have W:Hid (plP zs ys=[]/\plR zs ys=[]/\plC zs ys=7):=⟨B,r,D⟩;have lj:=t.size;clear y Iq B r D N;go_wp2;refine bodyPost_ret (v:=.tuple #[.slice none 0 0,.slice none 0 0,iV 7]) (by simp[results,Tryz.results43,go_sem]) rfl ?_;rw[W.out.1,W.out.2.1,W.out.2.2];exact⟨none,0,none,0,w.heap.size,w.heap.size,w.heap.size,w.heap.size,rfl,nR _,lj,nR _,lj,.inl (nR _),bE.empty _ _ _ _ _,aHI.empty _ _ _ _ _,t⟩
section
variable {P : Program} {ops : Array Oper} {Q : Exit -> Act -> World -> Prop} {md : Region.Mode} {S : World -> Prop} {L : Nat}
def fQ(P:Program)(md:Region.Mode)(ops:Array Oper)(Q:Exit->Act->World->Prop)(S:World->Prop)(L:Nat):Nat->Array Bool->Act->World->Prop
 | 0,listed,a,w=>Region.ready md ops listed=[]/\Q .normal a w
 | fuel+1,listed,a,w=>
  (Region.ready md ops listed=[]->Q .normal a w)/\
  ∀i∈Region.ready md ops listed,wpOp P ops Q i (fun a' w'=>(i<L->S w')/\fQ P md ops Q S L fuel (listed.setIfInBounds i true) a' w') a w
theorem uL:∀(fuel:Nat) (listed:Array Bool) (a:Act) (w:World),fQ P md ops Q S L fuel listed a w->wpAny P md ops Q fuel listed a w
 | 0,_,_,_,h=>h
 | fuel+1,_,_,_,h=>⟨h.1,fun i d=>wpOp_mono (fun b w' c=>uL fuel _ b w' c.2) (h.2 i d)⟩
theorem kI{i:Nat}{oi:Oper}{fuel:Nat}{listed:Array Bool}{a:Act}{w:World}(hr:Region.ready md ops listed=[i])(g:ops[i]?=some oi)(f:oi.guard=none)
  (h:∀K':Act->World->Prop,(∀a' w',(i<L->S w')->fQ P md ops Q S L fuel (listed.setIfInBounds i true) a' w'->K' a' w')->oi.wp P a w K' Q):fQ P md ops Q S L (fuel+1) listed a w:=by
 refine⟨fun c=>by simp[hr]at c,fun j b=>?_⟩;rw[hr]at b;simp only[List.mem_singleton]at b;subst b;unfold wpOp;simp only[g];rw[if_pos (by simp[Region.wanted,f])];exact .inl (h _ fun _ _ d e=>⟨d,e⟩)
theorem aBA{listed:Array Bool}{a:Act}{w:World}(hr:Region.ready md ops listed=[])(h:Q .normal a w):∀fuel,fQ P md ops Q S L fuel listed a w
 | 0=>⟨hr,h⟩
 | _+1=>⟨fun _=>h,by rw[hr];simp⟩
theorem aBC(S:World->Prop)(L:Nat){id:Nat}{a:Act}{w:World}(b:P.follows .mixedOrders=true)
  (h:fQ P .any ops Q S L ops.size (Array.replicate ops.size false) a w.drew):(Code.region id ops true).wp P Q a w:=
 wp_region_any b (uL _ _ _ _ h)
theorem aDE{i fd:Nat}(J:∀k,L<=k->k<ops.size->dep md ops fd k i=true){oi:Oper}{v:Value}(s:ops[i]?=some oi)(A:∀(j:Nat) (o:Oper) cs b,ops[j]?=some o->o.op≠.select cs b)
  (O:∀c a w,Q (.panic c) (a.put oi.dst v) w->Q (.panic c) a w) (fuel:Nat):
  ∀(listed:Array Bool) (a:Act) (w:World),kR md ops listed->
   (∀j oj,ops[j]?=some oj->j≠i->listed.getD j true=false->(∀e∈oj.after,Region.binds md e=true->e.on≠i)->oi.apart ops oj=true)->
   i∈Region.ready md ops listed->YieldsIf P ops S oi v a->S w->
   fQ P md ops Q S L fuel (listed.setIfInBounds i true) (a.put oi.dst v) w->fQ P md ops Q S L (fuel+1) listed a w:=by
 induction fuel with
 | zero=>
  intro listed a w _ _ g r n H;refine⟨fun h=>by simp[h]at g,fun j f=>?_⟩;by_cases d:j=i
  ·subst d
   exact r.wpOp s n ⟨fun _=>n,H⟩
  ·have V:=ready_mono f d
   simp[H.1]at V
 | succ fuel ih=>
  intro listed a w u y g r n H;refine⟨fun h=>by simp[h]at g,fun j f=>?_⟩;by_cases d:j=i
  ·subst d
   exact r.wpOp s n ⟨fun _=>n,H⟩
  ·have F:j<ops.size:=by
    obtain⟨_,oj,l,_⟩:=mem_ready.1 f;exact(Array.getElem?_eq_some_iff.1 l).1
   have E:j<L:=Nat.lt_of_not_le fun e=>d (vH u (J j e F) g f).symm;obtain⟨z,oj,l,I⟩:=mem_ready.1 f;have B:∀e∈oj.after,Region.binds md e=true->e.on≠i:=fun e T R C=>by
    have m:=I e T R;have q:=(mem_ready.1 g).1;rw[C]at m;simp only[Array.getD_eq_getD_getElem?]at q m;cases x:listed[i]? with
    | none=>simp[x]at q
    | some b=>simp[x]at q m;rw[q]at m;cases m
   have K:=wpOp_putIf l (y j oj l d z B) (fun cs b=>A i oi cs b s) (fun cs b=>A j oj cs b l) O r (H.2 j (ready_mono f d));refine wpOp_mono (fun G w' M=>?_) K;obtain⟨Z,t,N⟩:=M;refine⟨t,ih (listed.setIfInBounds j true) G w' (u.step f) (fun k Y U W D X=>y k Y U W ?_ X) (ready_mono g (Ne.symm d)) Z (t E) ?_⟩
   ·by_cases p:j=k
    ·exact p▸z
    ·rwa [getD_set_ne true p]at D
   ·rw[Array.setIfInBounds_comm _ _ d]
    exact N
theorem jR{i:Nat}{oi:Oper}(t:Nat)(v:Value){fuel:Nat}{listed:Array Bool}{a:Act}{w:World}(e:((List.range ops.size).all fun k=>decide (k<L) || dep md ops ops.size k i)=true)(m:wO md ops listed=true)(d:ops[i]?=some oi)
  (b:Region.noSelect ops=true) (j:Region.free md ops listed i=true) (hr:(Region.ready md ops listed).contains i=true)
  (f:∀c a w,Q (.panic c) (a.put oi.dst v) w->Q (.panic c) a w) (l:oi.guard=none) (ht:oi.dst=some t) (g:S w) (hy:∀w,S w->(execOp a.eval oi).run P w=.ok (.value v) w)
  (h:fQ P md ops Q S L fuel (listed.setIfInBounds i true) (a.put (some t) v) w):fQ P md ops Q S L (fuel+1) listed a w:=
 aDE (fd:=ops.size) (fun k n b=>by have:=List.all_eq_true.1 e k (List.mem_range.2 b);simp only[Bool.or_eq_true,decide_eq_true_eq]at this;exact this.resolve_left (by omega)) d (Region.noSelect_spec b) f fuel listed a w (nM m) (Region.free_spec d j) (by simpa using hr) (.inl ⟨by simp[Region.wanted,l],hy⟩) g (by rw[ht];exact h)
theorem aBB{i:Nat}(W:L<=i){oi:Oper}{v:Value}(s:ops[i]?=some oi)(y:∀(j:Nat) (o:Oper) cs b,ops[j]?=some o->o.op≠.select cs b)
  (J:∀c a w,Q (.panic c) (a.put oi.dst v) w->Q (.panic c) a w) (fuel:Nat):
  ∀(listed:Array Bool) (a:Act) (w:World),
   (∀j oj,ops[j]?=some oj->j≠i->listed.getD j true=false->(∀e∈oj.after,Region.binds md e=true->e.on≠i)->oi.apart ops oj=true)->
   i∈Region.ready md ops listed->YieldsIf P ops (fun _=>True) oi v a->
   fQ P md ops Q S L fuel (listed.setIfInBounds i true) (a.put oi.dst v) w->fQ P md ops Q S L (fuel+1) listed a w:=by
 induction fuel with
 | zero=>
  intro listed a w _ l p H;refine⟨fun h=>by simp[h]at l,fun j n=>?_⟩;by_cases d:j=i
  ·subst d
   exact p.wpOp s trivial ⟨fun q=>absurd q (by omega),H⟩
  ·have O:=ready_mono n d
   simp[H.1]at O
 | succ fuel ih=>
  intro listed a w u l p H;refine⟨fun h=>by simp[h]at l,fun j n=>?_⟩;by_cases d:j=i
  ·subst d
   exact p.wpOp s trivial ⟨fun q=>absurd q (by omega),H⟩
  ·obtain⟨x,oj,r,E⟩:=mem_ready.1 n
   have A:∀e∈oj.after,Region.binds md e=true->e.on≠i:=fun e M K B=>by
    have f:=E e M K;have m:=(mem_ready.1 l).1;rw[B]at f;simp only[Array.getD_eq_getD_getElem?]at m f;cases t:listed[i]? with
    | none=>simp[t]at m
    | some b=>simp[t]at m f;rw[m]at f;cases f
   have F:=wpOp_putIf r (u j oj r d x A) (fun cs b=>y i oi cs b s) (fun cs b=>y j oj cs b r) J p (H.2 j (ready_mono n d));refine wpOp_mono (fun D w' G=>?_) F;obtain⟨V,z,I⟩:=G;refine⟨z,ih (listed.setIfInBounds j true) D w' (fun k U N R C T=>u k U N R ?_ T) (ready_mono l (Ne.symm d)) V ?_⟩
   ·by_cases g:j=k
    ·exact g▸x
    ·rwa [getD_set_ne true g]at C
   ·rw[Array.setIfInBounds_comm _ _ d]
    exact I
theorem uK{i:Nat}{oi:Oper}(t:Nat)(v:Value){fuel:Nat}{listed:Array Bool}{a:Act}{w:World}(d:L<=i)(b:ops[i]?=some oi)
  (j:Region.noSelect ops=true) (f:Region.free md ops listed i=true) (hr:(Region.ready md ops listed).contains i=true)
  (e:∀c a w,Q (.panic c) (a.put oi.dst v) w->Q (.panic c) a w) (g:oi.guard=none) (ht:oi.dst=some t) (hy:∀w,(execOp a.eval oi).run P w=.ok (.value v) w)
  (h:fQ P md ops Q S L fuel (listed.setIfInBounds i true) (a.put (some t) v) w):fQ P md ops Q S L (fuel+1) listed a w:=
 aBB d b (Region.noSelect_spec j) e fuel listed a w (Region.free_spec b f) (by simpa using hr) (.inl ⟨by simp[Region.wanted,g],fun w _=>hy w⟩) (by rw[ht];exact h)
end
