import Derived.Test.YtmpagpeenjddgaaGreatFr2
set_option maxHeartbeats 9999999
set_option maxRecDepth 99999
set_option linter.all false
namespace Go.Proofs.YtmpagpeenjddgaaGreat
open Go.RowKit Go.Shelf
attribute [local go_sem] Oper.semAt_some
theorem zK(F:Fence)(n:Nat)(hW:∀{n f args w R},Calls Tryz.prog f args w R->CallsIn F n Tryz.prog f args w R)(L:∀f,F.fn f)(dq:F.round=none)(hn:3<=n)(a y:Option Addr)(c z:Nat)(zs ys:List Int)(w:World)(V:Nts w (.slice a zs.length c) zs)(qu:Nts w (.slice y ys.length z) ys)(jh:chk [zs,ys]=0):
  CallsIn F n Tryz.prog 129 #[.slice a zs.length c,.slice y ys.length z] w fun e w'=>∃u v,e=.returned (.tuple #[u,v,.int .i64 (plC zs ys)])/\dJ w.heap.size w' u (plP zs ys)/\fG w.heap.size w' v (plR zs ys)/\Bl w w':=by
 obtain⟨hl,ff,jo⟩:=mP jh;have hz:=(aBL ff).1;have HL:Hid (ys.length=zs.length):=hl.symm;have pj:1<=n:=by omega
 clear ff jo hl;have g1:=L 22;have g2:=L 131;have g3:=L 113;refine callsIn_of_wp_marks Tryz.func129 rfl (L _) ?_ dq;simp only[Tryz.ntmps129,List.size_toArray,List.length_cons,List.length_nil,Nat.reduceAdd,Nat.reduceSub,Array.replicate_succ,Array.replicate_zero,List.push_toArray,List.append_toArray,List.nil_append,List.cons_append];gi_wp2_with fail;have b0:=((Boxed.new w 29 (.slice none 0 0)).alloc (.cells #[.slice none 0 0] 81)).alloc (.cells #[.int .i64 0] 2);have b1:=(Boxed.new (w.alloc (.cells #[.slice none 0 0] 29)) 81 (.slice none 0 0)).alloc (.cells #[.int .i64 0] 2);have b2:=Boxed.new ((w.alloc (.cells #[.slice none 0 0] 29)).alloc (.cells #[.slice none 0 0] 81)) 2 (.int .i64 0);simp only[World.size_alloc]at b1 b2;have P:Bl w (((w.alloc (.cells #[.slice none 0 0] 29)).alloc (.cells #[.slice none 0 0] 81)).alloc (.cells #[.int .i64 0] 2)):=(((bQ _ w).alloc (nR _) _).alloc (by simp) _).alloc (by simp;omega) _;refine(hW (qN _ [zs,ys] _ (LRd.two (V.below P) (qu.below P) _ _ (by simp)) (by simp) (by simp) (aGW (by omega) (by rw[HL.out];omega)))).mono ?_;rintro e w1 ⟨rfl,ci⟩;rw[jh];have r0:=(b0.alloc (.cells #[.slice a zs.length c,.slice y ys.length z] 29));have r1:=(b1.alloc (.cells #[.slice a zs.length c,.slice y ys.length z] 29));have r2:=(b2.alloc (.cells #[.slice a zs.length c,.slice y ys.length z] 29));have Q:=P.trans ((iQ _ (.cells #[.slice a zs.length c,.slice y ys.length z] 29)).mono P.size);rw[ci]at r0 r1 r2 Q;have ez:w.heap.size+3<w1.heap.size:=by rw[<-ci];simp
 clear ci b0 b1 b2 P;gi_wp2_with fail;refine(hW (pX _ _ zs _ (by omega) (by omega) (V.below Q))).mono ?_;rintro e A ⟨u,rfl,iy,O⟩;obtain⟨g,d,rfl⟩:∃g d,u=.slice (some ⟨g,0,none⟩) zs.length d:=by
  obtain⟨m,hm⟩:∃m,zs.length=m+1:=⟨zs.length-1,by omega⟩;have mz:=iy;unfold dJ at mz;rw[hm]at mz |-;exact ownsRow_succ mz
 gi_wp2_with (gi_at_call 113;refine(jK F (n-1) g3 dq _ _ _ ⟨_,_,_,rfl⟩ ⟨_,_,_,rfl⟩).mono ?_;rintro e w' ⟨rfl,rfl⟩)
 have DF:=iy.own V.small;obtain⟨li,ws⟩:w1.heap.size<=g/\g<A.heap.size:=by
  have:=World.ownsRow.lt iy g rfl
  exact this
 have py:bH g (g+1) A (.slice (some ⟨g,0,none⟩) zs.length d) zs:=by
  obtain⟨_,_,S,hs⟩:=DF.shape;refine⟨V.small,_,_,rfl,fun hp=>?_⟩;simp only[Value.slice.injEq,true_and]at S;obtain⟨rfl,rfl⟩:=S;obtain⟨_,_,S,_,_,h3,h4⟩:=hs hp;simp only[sJ,Addr.mk.injEq,and_true]at S;obtain⟨rfl,rfl⟩:=S;exact⟨g,0,rfl,nR _,Nat.lt_succ_self _,h3,h4⟩
 have bC:=Boxed.new A 29 (.slice (some ⟨g,0,none⟩) zs.length d);have bP:=Boxed.new (A.alloc (.cells #[.slice (some ⟨g,0,none⟩) zs.length d] 29)) 29 (.slice none 0 0);have bS:=Boxed.new ((A.alloc (.cells #[.slice (some ⟨g,0,none⟩) zs.length d] 29)).alloc (.cells #[.slice none 0 0] 29)) 29 (.slice a zs.length c);have bT:=Boxed.new (((A.alloc (.cells #[.slice (some ⟨g,0,none⟩) zs.length d] 29)).alloc (.cells #[.slice none 0 0] 29)).alloc (.cells #[.slice a zs.length c] 29)) 29 (.slice y ys.length z);simp only[World.size_alloc]at bP bS bT;have J:Bl A ((((A.alloc (.cells #[.slice (some ⟨g,0,none⟩) zs.length d] 29)).alloc (.cells #[.slice none 0 0] 29)).alloc (.cells #[.slice a zs.length c] 29)).alloc (.cells #[.slice y ys.length z] 29)):=((((bQ _ A).alloc (nR _) _).alloc (by simp) _).alloc (by simp;omega) _).alloc (by simp;omega) _;have xf:=Q.trans (O.mono Q.size);have kw:PlS w A.heap.size g d (.slice a zs.length c) (.slice y ys.length z) zs [] (.slice none 0 0) ((((A.alloc (.cells #[.slice (some ⟨g,0,none⟩) zs.length d] 29)).alloc (.cells #[.slice none 0 0] 29)).alloc (.cells #[.slice a zs.length c] 29)).alloc (.cells #[.slice y ys.length z] 29)):=
  ⟨(bP.alloc _).alloc _,World.ownsRow_nil _ _ _ _,((bC.alloc _).alloc _).alloc _,py.below J,cD (cD r0 O) J,cD (cD r1 O) J,cD (cD r2 O) J,bS.alloc _,bT,xf.trans (J.mono xf.size)⟩
 have MX:=kw.bb;have ay:((((A.alloc (.cells #[.slice (some ⟨g,0,none⟩) zs.length d] 29)).alloc (.cells #[.slice none 0 0] 29)).alloc (.cells #[.slice a zs.length c] 29)).alloc (.cells #[.slice y ys.length z] 29)).heap.size=A.heap.size+4:=by simp
 obtain⟨W3,Cm⟩:=eZ (((((A.alloc (.cells #[.slice (some ⟨g,0,none⟩) zs.length d] 29)).alloc (.cells #[.slice none 0 0] 29)).alloc (.cells #[.slice a zs.length c] 29)).alloc (.cells #[.slice y ys.length z] 29)));rw[Cm]at kw MX ay |-;have ni:Hid (W3.heap.size=A.heap.size+4):=ay;have Y6:=xf.size;generalize hs:A.heap.size=s at *;have OF:s<=W3.heap.size:=by omega
 have vb:w.heap.size+3<s:=by omega
 have BR:w.heap.size+3<g:=by omega
 clear Cm bC bP bS bT J xf DF py iy O r0 r1 r2 ay hs Q;refine wpIn_rangeFunc_ownF dq pj (gf:=133) (lb:=#[.pointer (some ⟨s+1+1,0,none⟩),.pointer (some ⟨s+1+1+1,0,none⟩)]) rfl (L _) (enters_of Tryz.func133 (by kernel_rfl) rfl)
  (mU F (n-1) (L _) dq (by omega) (s+1+1) (s+1+1+1) w.heap.size a y c z zs ys HL.out (by omega) (by omega) W3 (by have:=ni.out;omega) (by have:=ni.out;omega) (by omega) kw.bs.cell kw.bt.cell w V qu (by omega) MX) KpF.trans (KpF.put (by omega) (by have:=ni.out;omega) (by have:=ni.out;omega)) (bQ _ _) (fun _=>rfl)
  (fun b W=>(∃v,PlS w s g d (.slice a zs.length c) (.slice y ys.length z) zs b v W)/\∀j,j<b.length->good zs (b.take (j+1))=false)
  (fun k b W=>PlE w s zs b W/\(k=.ret/\∃(p:List (Blk zs.length)) (x:Blk zs.length),b=p++[x]/\good zs b=true/\∀j:Nat,j<p.length->good zs (p.take (j+1))=false))
  (fun x X Y I T hg U=>⟨aMA (by omega) x X Y I T.1 hg (fun r e=>⟨lT OF (U r e).1,(U r e).2⟩),T.2⟩)
  (fun k x X Y I T hg U=>⟨aLZ (by omega) x X Y I T.1 hg (fun r e=>⟨lT OF (U r e).1,(U r e).2⟩),T.2⟩)
  ⟨⟨_,kw⟩,fun j hj=>by simp at hj⟩
  (fun x=>{tmps:=#[.slice a zs.length c,.slice y ys.length z,undef,undef,.pointer (some ⟨w.heap.size,0,none⟩),.pointer (some ⟨w.heap.size+1,0,none⟩),.pointer (some ⟨w.heap.size+1+1,0,none⟩),.int .i64 0,.pointer (some ⟨s,0,none⟩),.pointer (some ⟨s+1,0,none⟩),.int .i64 (x.1:Int),undef,.slice a zs.length c,.slice y ys.length z,.slice (some ⟨w.heap.size+1+1+1,0,none⟩) 2 2,.int .i64 0,.int .i64 0,.bool false,undef,.slice a zs.length c,.slice (some ⟨g,0,none⟩) zs.length d,.slice a zs.length c,.slice y ys.length z,.func (.func 133) #[] #[.pointer (some ⟨s+1+1,0,none⟩),.pointer (some ⟨s+1+1+1,0,none⟩)],.int .i64 (x.1:Int),undef,undef,undef,undef,undef,undef,undef,undef,undef,undef,undef,undef,undef,undef,undef,undef,undef],defers:=[]}) ?assign ?body ?done ?stop
 case assign=>
  intro l x W K B;gi_wp2;exact B
 case body=>
  rintro l b x W ⟨⟨v,o⟩,G⟩ VM;obtain⟨i0,hi,jq,im,AP⟩:=info_parts sM;have Gv:s<=W.heap.size:=by have:=o.b6.lt;omega
  have zu:=x.2.1;have qw:=x.2.2;have Pb:(x.1:Int) <(zs.length:Int):=by omega
  have mr:s≠s+1:=by omega
  have Kw:g≠s+1:=by omega
  have YT:g≠s:=by omega
  have AH:=o.da.cell;obtain⟨va,vc,rfl⟩:∃va vc,v=.slice va b.length vc:=by
   rcases o.row.2 with⟨e,e2⟩ | ⟨gg,cc,cu,e,_⟩
   ·exact⟨none,0,by rw[e,e2]⟩
   ·exact⟨_,_,e⟩
  gi_wp2_with (gi_at_builtin;refine wpListIn_append_own _ rfl _ _ 29 rfl s 2 i0 (.int .i64 0) 1 8 Tryz.underlying29 hi jq im AP rfl (by decide) _ _ _ rfl (World.ownsRow.alloc o.row _) ⟨W.heap.size,0,none⟩ 1 1 [.int .i64 (x.1:Int)] rfl rfl (cell_one_new _ _ _) (by simp[Value.oneCell']) (by unfold maxLen;omega) (by omega) (by simp;omega) ?_;intro v' w4 tw lj _;obtain⟨g',N,rfl⟩:=ownsRow_succ tw;obtain⟨p1,-⟩:=o.appended vb ws BR tw lj;have ff:=p1.cell;have qe:=p1.frozen;obtain⟨m1,m2,m3⟩:=o.el x ws lj)
  obtain⟨E,B,QZ⟩:=o.next vb ws BR tw lj;obtain⟨W5,AG⟩:=eZ (((w4.setCell ⟨s+1,0,none⟩ (.slice (some ⟨g',0,none⟩) (b.length+1) N)).setCell ⟨g,x.1,none⟩ (.int .i64 1)));rw[AG]at E B QZ |-;have ai:=qE zs (b++[x]);have UM:=o.kp E QZ;clear AG tw lj AH ff qe m1 m2 m3 p1 o;refine⟨fun _=>by omega,(CallsIn.inRound l (hW (aCM _ (nA zs (b++[x])) _ E.ei.c7 (by omega)))).mono ?_⟩;rintro e w5 ⟨u,rfl,Ck,M⟩;rw[ai]at Ck;have GS:fG W5.heap.size w5 u (rnO zs (b++[x])):=Ck;obtain⟨ua,uc,rfl⟩:=GS.shape;have C:=aGB E M;have Ch:=B.trans (oF M);have Qm:=UM.trans ⟨M.mono (by have:=E.bb.size;omega),M.block _ E.bs.lt,M.block _ E.bt.lt⟩;have Fs:s<=W5.heap.size:=by have:=E.b6.lt;omega
  have uf:=tR zs (b++[x]);have c1:=C.da.cell;have YQ:IntKind.i64.wrap (20*((b.length+1:Nat):Int))=((20*(b.length+1):Nat):Int):=(IntWalk.i64_in _ ⟨by omega,by omega⟩).trans (by omega);clear Ck E B UM QZ M ai;by_cases H:good zs (b++[x])=true
  ·have oh:(rnO zs (b++[x])).length<=20*(b.length+1):=by simpa [good] using H
   have SP:((rnO zs (b++[x])).length:Int)<=((20*(b.length+1):Nat):Int):=by omega
   have d0:=C.r0.cell;have d1:=C.r1.cell;have d2:=C.r2.cell;have e0:=C.r0.frozen;have e1:=C.r1.frozen;have e2:=C.r2.frozen;have Pv:Hid _:=C.ends vb GS Fs;have n1:w.heap.size≠w.heap.size+1:=by omega
   have n2:w.heap.size≠w.heap.size+1+1:=by omega
   have n3:w.heap.size+1≠w.heap.size+1+1:=by omega
   have HG:Hid (good zs (b++[x])=true):=H;have HN:Hid (∀j:Nat,j<b.length->good zs (b.take (j+1))=false):=G;clear H G oh GS C;gi_wp2;exact⟨((Ch.trans (KeepsOthers.setCell _ _ _)).trans (KeepsOthers.setCell _ _ _)).trans (KeepsOthers.setCell _ _ _),Pv.out,rfl,b,x,rfl,HG.out,HN.out⟩
  ·have BQ:good zs (b++[x])=false:=by simpa using H
   have oh:¬(rnO zs (b++[x])).length<=20*(b.length+1):=by simpa [good] using H
   have SP:¬((rnO zs (b++[x])).length:Int)<=((20*(b.length+1):Nat):Int):=by omega
   have HG:Hid _:=aFK G BQ;generalize (rnO zs (b++[x])).length=rl at *;clear H BQ G oh GS;gi_wp2;exact⟨Ch,Qm,⟨_,C⟩,HG.out⟩
 case done=>
  rintro D xs W hD rfl ⟨⟨v,o⟩,G⟩ B;obtain⟨f1,f2,f3⟩:=xN jh (tG G);have d0:=o.r0.cell;have d1:=o.r1.cell;have d2:=o.r2.cell;have e0:=o.r0.frozen;have e1:=o.r1.frozen;have e2:=o.r2.frozen;have n1:w.heap.size≠w.heap.size+1:=by omega
  have n2:w.heap.size≠w.heap.size+1+1:=by omega
  have n3:w.heap.size+1≠w.heap.size+1+1:=by omega
  gi_wp2
  have k1:=(KeepsOthers.setCell W ⟨w.heap.size,0,none⟩ (.slice none 0 0)).same D _ B rfl;have k2:=(KeepsOthers.setCell (W.setCell ⟨w.heap.size,0,none⟩ (.slice none 0 0)) ⟨w.heap.size+1,0,none⟩ (.slice none 0 0)).same D _ k1 rfl;have Z:=(KeepsOthers.setCell ((W.setCell ⟨w.heap.size,0,none⟩ (.slice none 0 0)).setCell ⟨w.heap.size+1,0,none⟩ (.slice none 0 0)) ⟨w.heap.size+1+1,0,none⟩ (.int .i64 7)).same D _ k2 rfl;refine⟨by simp,.inl ⟨_,_,rfl,run_takeDeferred Z,?_⟩⟩;have Qd:w.heap.size<=D:=by omega
  have x0:Boxed (((W.setCell ⟨w.heap.size,0,none⟩ (.slice none 0 0)).setCell ⟨w.heap.size+1,0,none⟩ (.slice none 0 0)).setCell ⟨w.heap.size+1+1,0,none⟩ (.int .i64 7)) w.heap.size 29 (.slice none 0 0):=((o.r0.set _).other n1 _).other n2 _;have x1:Boxed (((W.setCell ⟨w.heap.size,0,none⟩ (.slice none 0 0)).setCell ⟨w.heap.size+1,0,none⟩ (.slice none 0 0)).setCell ⟨w.heap.size+1+1,0,none⟩ (.int .i64 7)) (w.heap.size+1) 81 (.slice none 0 0):=((o.r1.other (Ne.symm n1) _).set _).other n3 _;have x2:Boxed (((W.setCell ⟨w.heap.size,0,none⟩ (.slice none 0 0)).setCell ⟨w.heap.size+1,0,none⟩ (.slice none 0 0)).setCell ⟨w.heap.size+1+1,0,none⟩ (.int .i64 7)) (w.heap.size+1+1) 2 (.int .i64 7):=((o.r2.other (Ne.symm n2) _).other (Ne.symm n3) _).set _;have y0:=cell_kept x0.cell (grownBy_putObj' _ D (.deferred none)) (fun r e=>by cases e;exact⟨_,Z,rfl⟩);have y1:=cell_kept x1.cell (grownBy_putObj' _ D (.deferred none)) (fun r e=>by cases e;exact⟨_,Z,rfl⟩);have y2:=cell_kept x2.cell (grownBy_putObj' _ D (.deferred none)) (fun r e=>by cases e;exact⟨_,Z,rfl⟩);refine⟨.tuple #[.slice none 0 0,.slice none 0 0,.int .i64 7],?_,.slice none 0 0,.slice none 0 0,by rw[f3],by rw[f1];exact dJ.start _ _,by rw[f2];exact fG.start _ _,?_⟩
  ·simp[results,Tryz.f129,go_sem,y0,y1,y2]
  ·exact(((o.bb.setCell (p:=⟨w.heap.size,0,none⟩) (nR _) _).setCell (p:=⟨w.heap.size+1,0,none⟩) (by show w.heap.size<=w.heap.size+1;omega) _).setCell (p:=⟨w.heap.size+1+1,0,none⟩) (by show w.heap.size<=w.heap.size+1+1;omega) _).trans (belowK_b (w:=w) (nR _) _ D _ _ Qd Z rfl rfl)
 case stop=>
  rintro D k b W hD ⟨q,hq,me⟩ ⟨⟨p0,q0,h0,h1,h2,h3,h4,h5⟩,rfl,p,x,VO,H,G⟩ B;have sx:b.length=p.length+1:=by rw[VO];simp
  have PN:(frs zs ys zs.length zs.length).take (p.length+1)=b:=by
   obtain⟨t,ht⟩:=sI zs ys zs.length hq;rw[<-ht,<-me,List.take_append_of_le_length (by omega),List.take_of_length_le (by omega)]
  have sb:p.length <(frs zs ys zs.length zs.length).length:=by
   have h:=congrArg List.length PN;rw[List.length_take,sx]at h;omega
  have IQ:lK zs ys=some p.length:=tI sb (by rw[PN];exact H) fun i hi=>by
   have h:(frs zs ys zs.length zs.length).take (i+1)=p.take (i+1):=by
    have h2:=congrArg (List.take (i+1)) PN;rw[List.take_take,Nat.min_eq_left (by omega)]at h2;rw[h2,VO,List.take_append_of_le_length (by omega)]
   rw[h];exact G i hi
  obtain⟨f1,f2,f3⟩:=xO jh IQ;rw[PN]at f1 f2;gi_wp2;refine⟨by simp,.inl ⟨_,_,rfl,run_takeDeferred B,?_⟩⟩;have Qd:w.heap.size<=D:=by omega
  have y0:=cell_kept h0.cell (grownBy_putObj' _ D (.deferred none)) (fun r e=>by cases e;exact⟨_,B,rfl⟩);have y1:=cell_kept h1.cell (grownBy_putObj' _ D (.deferred none)) (fun r e=>by cases e;exact⟨_,B,rfl⟩);have y2:=cell_kept h2.cell (grownBy_putObj' _ D (.deferred none)) (fun r e=>by cases e;exact⟨_,B,rfl⟩);have OM:w.heap.size<=s:=by omega
  refine⟨.tuple #[p0,q0,.int .i64 0],?_,p0,q0,by rw[f3],?_,?_,?_⟩
  ·simp[results,Tryz.f129,go_sem,y0,y1,y2]
  ·rw[f1]
   unfold dJ;have h:=tU (ownsRow_putObj h3 (.deferred none) B rfl) OM;rw[List.length_map,List.map_map];exact h
  ·rw[f2]
   exact tU (ownsRow_putObj h4 (.deferred none) B rfl) OM
  ·exact h5.trans (belowK_b (w:=w) (nR _) _ D _ _ Qd B rfl rfl)
theorem xA(a b:Option Addr)(c d:Nat)(zs ys:List Int)(w:World)(f:Nts w (.slice a zs.length c) zs)(i:Nts w (.slice b ys.length d) ys)(g:chk [zs,ys]=0):
  Calls Tryz.prog 129 #[.slice a zs.length c,.slice b ys.length d] w fun e w'=>∃u v,e=.returned (.tuple #[u,v,.int .i64 (plC zs ys)])/\dJ w.heap.size w' u (plP zs ys)/\fG w.heap.size w' v (plR zs ys)/\Bl w w':=
 (callsIn_wide (n:=3)).1 (zK Fence.wide 3 (fun h=>callsIn_wide.2 h) (fun _=>trivial) rfl (nR _) a b c d zs ys w f i g)
end Go.Proofs.YtmpagpeenjddgaaGreat
namespace Go.Proofs.YtmpagpeenjddgaaGreat
open Go.RowKit
theorem aKI(zs:List Int)(k:Nat)(h:k<zs.length):zs.take (k+1)=zs.take k++[zs.getD k 0]:=by
 rw[List.take_succ_eq_append_getElem h];simp[h]
theorem uB{zs:List Int}(h:∀i,-9223372036854775808<=zs.getD i 0/\zs.getD i 0<=9223372036854775807)(k i:Nat):-9223372036854775808<=(zs.take k).getD i 0/\(zs.take k).getD i 0<=9223372036854775807:=by
 have:=h i
 simp only[gD,List.getElem?_take]at this |-;by_cases a:i<k
 ·rw[if_pos a];exact this
 ·rw[if_neg a];simp
theorem bH.take{lo hi:Nat}{w:World}{a:Option Addr}{n cap:Nat}{zs:List Int}(h:bH lo hi w (.slice a n cap) zs)(k:Nat)(q:k<=n):bH lo hi w (.slice a k cap) (zs.take k):=by
 obtain⟨_,_,d,p⟩:=h.shape;simp only[Value.slice.injEq]at d;obtain⟨rfl,rfl,rfl⟩:=d;have c:(zs.take k).length=k:=by simp;omega
 refine⟨uB h.small k,a,cap,by rw[c],fun o=>?_⟩;rw[c]at o;obtain⟨b,off,l,f,g,j,m⟩:=p (by omega);refine⟨b,off,l,f,g,j,fun i hi=>?_⟩;rw[c]at hi;obtain⟨c1,e⟩:=m i (by omega);refine⟨?_,e⟩;rw[c1];simp only[gD,List.getElem?_take,if_pos hi]
theorem aLQ(zs ys:List Int)(i:Nat)(h:i <(frs zs ys zs.length zs.length).length):(frI zs ys zs.length zs.length).getD i 0=(((frs zs ys zs.length zs.length)[i]'(h)).1:Int):=by
 simp[frI,h]
theorem aIM(zs ys:List Int)(i:Nat)(h:i <(frs zs ys zs.length zs.length).length):(frs zs ys zs.length zs.length).take (i+1)=(frs zs ys zs.length zs.length).take i++[(frs zs ys zs.length zs.length)[i]'(h)]:=List.take_succ_eq_append_getElem h
theorem aDR(zs ys:List Int):(frI zs ys zs.length zs.length).length=(frs zs ys zs.length zs.length).length:=by simp[frI]
theorem bH.dc{lo hi:Nat}{w:World}{a:Option Addr}{n cap:Nat}{zs:List Int}(h:bH lo hi w (.slice a n cap) zs)(j:Nat)(d:j<n)(x:Int)(hx:-9223372036854775808<=x/\x<=9223372036854775807):
  ∃b off,a=some ⟨b,off,none⟩/\lo<=b/\b<hi/\w.cell? ⟨b,off+j,none⟩=some (.int .i64 (zs.getD j 0))/\w.frozen? ⟨b,off+j,none⟩=false/\
   bH lo hi (w.setCell ⟨b,off+j,none⟩ (.int .i64 x)) (.slice a n cap) (zs.set j x)/\Upd lo hi w (w.setCell ⟨b,off+j,none⟩ (.int .i64 x)):=by
 have f:=h;obtain⟨_,_,c,l⟩:=f.shape;simp only[Value.slice.injEq]at c;obtain⟨rfl,rfl,rfl⟩:=c;obtain⟨b,off,rfl,g,i,p,k⟩:=l (by omega);obtain⟨c1,e⟩:=k j d;obtain⟨m,o⟩:=h.stored j d x hx;exact⟨b,off,rfl,g,i,c1,e,m,o⟩
theorem aCA(a a':Option Addr)(c c':Nat)(zs ys:List Int)(w:World)(P:Nts w (.slice a zs.length c) zs)(qu:Nts w (.slice a' ys.length c') ys)(jh:chk [zs,ys]=0):
  Calls Tryz.prog 43 #[.slice a zs.length c,.slice a' ys.length c'] w fun e w'=>∃a0 c0 a1 c1 l0 h0 l1 h1,e=.returned (.tuple #[.slice a0 (plP zs ys).length c0,.slice a1 (plR zs ys).length c1,.int .i64 (plC zs ys)])/\w.heap.size<=l0/\h0<=w'.heap.size/\w.heap.size<=l1/\h1<=w'.heap.size/\(h0<=l1\/h1<=l0)/\bH l0 h0 w' (.slice a0 (plP zs ys).length c0) (plP zs ys)/\aHG l1 h1 w' (.slice a1 (plR zs ys).length c1) (plR zs ys)/\Bl w w':=by
 obtain⟨hl,ff,jo⟩:=mP jh;have hz:=(aBL ff).1;have HL:Hid (ys.length=zs.length):=hl.symm;obtain⟨_,_,F,H⟩:=P.shape;simp only[Value.slice.injEq,true_and]at F;obtain⟨rfl,rfl⟩:=F;obtain⟨b,off,rfl,af⟩:=H (by omega);have lu:b<w.heap.size:=World.block_lt_of_cell? _ _ (af 0 (by omega));have mo:=P.small;clear ff jo hl H;go_enter Tryz.func43,Tryz.ntmps43;go_wp2_with fail;refine(sQ _ _ _ _ zs ys _ P qu HL.out (by omega) (by omega)).mono ?_;rintro e w1 ⟨u,rfl,R,au⟩;obtain⟨E,l,rfl⟩:=R.shape;have I:=R.own (fun i=>aFI zs ys _ _ i (by omega));have ez:=au.size;have Em:(frI zs ys zs.length zs.length).length<=l:=by
  rcases R.2 with⟨e,e2⟩ | ⟨gg,cc,cu,e,_,_,h3,_⟩
  ·simp only[Value.slice.injEq]at e;omega
  ·simp only[Value.slice.injEq]at e;omega
 have sb:=sG zs ys zs.length zs.length;have K:=aDR zs ys;rw[K]at sb Em;rw[K]at I;rw[K];clear R P qu;obtain⟨m,o⟩:∃m,Hid ((frs zs ys zs.length zs.length).length=m):=⟨_,rfl⟩;rw[o.out]at sb I K Em;rw[o.out];go_wp2;go_loopw [8] (fun i wr=>∃k:Nat,1<=k/\k<=m+1/\i=.int .i64 k/\bH w.heap.size w1.heap.size wr (.slice E m l) (frI zs ys zs.length zs.length)/\Bl w wr/\w1.heap.size<=wr.heap.size/\∀j,j+1<k->good zs ((frs zs ys zs.length zs.length).take (j+1))=false) (fun i _=>m+1 -(intOf i).toNat)
 case atStart=>exact⟨1,nR _,by omega,rfl,I,au,nR _,fun j G=>by omega⟩
 case round=>
  obtain⟨k,gh,hk,rfl,O,t,OM,y⟩:=hrel;obtain⟨n,rfl⟩:∃n,n=wr:=⟨wr,rfl⟩;clear I au;by_cases ak:k<=m
  ·have DW:(k:Int)<=(m:Int):=by omega
   have ay:=t.size;go_wp2;go_loopw [9,10] (fun u i d=>∃j:Nat,j<=zs.length/\i=.int .i64 j/\dJ n.heap.size d u (zs.take j)/\Bl n d) (fun _ i _=>zs.length -(intOf i).toNat)
   case atStart=>exact⟨0,Nat.zero_le _,rfl,dJ.lit _ _ (nR _) _ rfl,iQ _ _⟩
   case round=>
    obtain⟨j,G,rfl,M,g⟩:=hrel;obtain⟨d,rfl⟩:∃d,d=wr:=⟨wr,rfl⟩;obtain⟨ua,uc,FH⟩:=M.shape;have s:(zs.take j).length=j:=by simp;omega
    rw[s]at FH;subst FH;have et:=g.size;by_cases U:j<zs.length
    ·have g1:d.cell? ⟨b,off+j,none⟩=some (.int .i64 (zs.getD j 0)):=(g.cell (p:=⟨b,off+j,none⟩) (by show b<n.heap.size;omega)).trans ((t.cell (p:=⟨b,off+j,none⟩) lu).trans (af j U))
     have hi:(j:Int) <(zs.length:Int):=by omega
     have X:Hid (zs.take (j+1)=zs.take j++[zs.getD j 0]):=aKI zs j U;have Rk:(zs.take j).length<8589934592:=by omega
     generalize zs.getD j 0=z at *;clear s;go_wp2_with (first | (at_builtin;refine kP rfl _ _ rfl _ M rfl rfl Rk et ?_;intro v' f bd bx Ay Rz) | go_in);rw[<-X.out]at bd;go_roundw
     case rel=>exact⟨j+1,by omega,by go_num,bd,g.trans bx⟩
     case measure=>simp[intOf];omega
    ·have Z:j=zs.length:=by omega
     have T:bH n.heap.size d.heap.size d (.slice ua zs.length uc) zs:=by
      have h:=M.own (uB mo j);rw[Z,List.take_length]at h;exact h
     rw[Z];clear M s U G Z;go_wp2;go_loopw [11] (fun i f=>∃q:Nat,q<=k/\i=.int .i64 q/\bH n.heap.size d.heap.size f (.slice ua zs.length uc) (nA zs ((frs zs ys zs.length zs.length).take q))/\Upd n.heap.size d.heap.size d f) (fun i _=>k -(intOf i).toNat)
     case atStart=>exact⟨0,Nat.zero_le _,rfl,T,Upd.refl _ _ _⟩
     case round=>
      obtain⟨q,hq,rfl,S,A⟩:=hrel;obtain⟨f,rfl⟩:∃f,f=wr:=⟨wr,rfl⟩;have vb:=A.size;by_cases hlq:q<k
      ·have L:q <(frs zs ys zs.length zs.length).length:=by rw[o.out];omega
       have Yd:q<m:=by omega
       obtain⟨x,Y⟩:∃x,Hid ((frs zs ys zs.length zs.length)[q]'(L)=x):=⟨_,rfl⟩;have zu:=x.2.1;have qw:=x.2.2;have C:bH w.heap.size w1.heap.size f (.slice E m l) (frI zs ys zs.length zs.length):=(O.below g).upd A (.inl OM);obtain⟨_,_,F,H⟩:=C.shape;simp only[Value.slice.injEq]at F;obtain⟨rfl,RG,rfl⟩:=F;obtain⟨fb,fo,rfl,qe,lw,DS,ud⟩:=H (by omega);have g1:=(ud q (by omega)).1;rw[aLQ zs ys q L,Y.out]at g1;have rq:=S.dc x.1 qw 1 (by omega);obtain⟨lb,lo',rfl,ei,Cs,c1,c2,OJ,OK⟩:=rq;have X:Hid (nA zs ((frs zs ys zs.length zs.length).take (q+1))=(nA zs ((frs zs ys zs.length zs.length).take q)).set x.1 1):=by
        rw[aIM zs ys q L,vV,Y.out];rfl
       have rz:Hid _:=OJ;have pq:Hid _:=OK;have fj:(q:Int) <(m:Int):=by omega
       have AK:(x.1:Int) <(zs.length:Int):=by omega
       have Ke:(q:Int) <(k:Int):=by omega
       generalize (nA zs ((frs zs ys zs.length zs.length).take q)).getD x.1 0=cv at *;generalize x.1=xv at *;clear RG H ud C OJ OK S T Y L;go_wp2;go_roundw
       case rel=>exact⟨q+1,by omega,by go_num,by rw[X.out];exact rz.out,A.trans pq.out⟩
       case measure=>simp[intOf];omega
      ·have N3:q=k:=by omega
       subst N3;have ai:=qE zs ((frs zs ys zs.length zs.length).take q);have s:((frs zs ys zs.length zs.length).take q).length=q:=by rw[List.length_take,o.out];omega
       have C:bH w.heap.size w1.heap.size f (.slice E m l) (frI zs ys zs.length zs.length):=(O.below g).upd A (.inl OM);have bu:Bl w f:=(t.trans (g.mono t.size)).trans (A.below t.size (by omega));have XT:=g.size;clear O T hlq hq;go_wp2_with fail;refine(aCB _ _ _ S.c7 (by omega)).mono ?_;rintro e w4 ⟨u,rfl,mh,N⟩;rw[ai]at mh;have J:fG f.heap.size w4 u (rnO zs ((frs zs ys zs.length zs.length).take q)):=mh;obtain⟨ra,rc,rfl⟩:=J.shape;have jt:=C.below N;have Ee:=bu.trans (N.mono bu.size);have vd:=N.size;have uf:=tR zs ((frs zs ys zs.length zs.length).take q);have Om:Hid (good zs ((frs zs ys zs.length zs.length).take q)=decide ((rnO zs ((frs zs ys zs.length zs.length).take q)).length<=20*q)):=by unfold good;rw[s];rfl
       clear mh C S ai bu N g A;by_cases Q:(rnO zs ((frs zs ys zs.length zs.length).take q)).length<=20*q
       ·have sd:lK zs ys=some (q-1):=tI (by rw[o.out];omega) (by rw[show q-1+1=q by omega,Om.out];exact decide_eq_true Q) (fun i hi=>y i (by omega))
        obtain⟨B,r,D⟩:=xO jh sd;rw[show q-1+1=q by omega]at B r;have eu:=jt.take q (by omega);have Sm:(frI zs ys zs.length zs.length).take q=plP zs ys:=by rw[B,frI,List.map_take]
        rw[Sm]at eu;have sx:(plP zs ys).length=q:=by rw[<-Sm,List.length_take,aDR,o.out];omega
        have V:=J.own;have Ru:((rnO zs ((frs zs ys zs.length zs.length).take q)).length:Int)<=20*(q:Int):=by omega
        rw[<-r]at V;have sj:Hid (plR zs ys=rnO zs ((frs zs ys zs.length zs.length).take q)):=r;have Px:Hid (plC zs ys=0):=D;have FO:Hid ((plP zs ys).length=q):=sx;have Zu:q<=l:=by omega
        have Yc:(q:Int)<=(l:Int):=by omega
        clear Q sd B r D Sm sx jt J y s;go_wp2;refine bodyPost_ret (v:=.tuple #[.slice E q l,.slice ra (rnO zs ((frs zs ys zs.length zs.length).take q)).length rc,.int .i64 0]) (by simp[results,Tryz.results43,go_sem]) rfl ⟨E,l,ra,rc,w.heap.size,w1.heap.size,f.heap.size,w4.heap.size,by rw[Px.out,sj.out,FO.out],nR _,by omega,by omega,nR _,.inl (by omega),by rw[FO.out];exact eu,by rw[sj.out]at V |-;exact V,Ee⟩
       ·have BQ:good zs ((frs zs ys zs.length zs.length).take q)=false:=by rw[Om.out];exact decide_eq_false Q
        have Ru:¬((rnO zs ((frs zs ys zs.length zs.length).take q)).length:Int)<=20*(q:Int):=by omega
        have WD:Hid (∀j,j+1<q+1->good zs ((frs zs ys zs.length zs.length).take (j+1))=false):=fun j G=>by
         by_cases e:j+1<q
         ·exact y j e
         ·rw[show j+1=q by omega];exact BQ
        clear Q BQ J y s;go_wp2;go_roundw
        case rel=>exact⟨q+1,by omega,by omega,by go_num,jt,Ee,by omega,WD.out⟩
        case measure=>simp[intOf];omega
  ·have E0:k=m+1:=by omega
   have IR:lK zs ys=none:=tG fun j G=>y j (by rw[o.out]at G;omega);obtain⟨B,r,D⟩:=xN jh IR;have W:Hid (plP zs ys=[]/\plR zs ys=[]/\plC zs ys=7):=⟨B,r,D⟩;have lq:=t.size;clear y IR B r D O;go_wp2;refine bodyPost_ret (v:=.tuple #[.slice none 0 0,.slice none 0 0,.int .i64 7]) (by simp[results,Tryz.results43,go_sem]) rfl ?_;rw[W.out.1,W.out.2.1,W.out.2.2];exact⟨none,0,none,0,w.heap.size,w.heap.size,w.heap.size,w.heap.size,rfl,nR _,lq,nR _,lq,.inl (nR _),bH.empty _ _ _ _ _,aHG.empty _ _ _ _ _,t⟩
section
variable {P : Program} {ops : Array Oper} {Q : Exit -> Act -> World -> Prop} {md : Region.Mode} {S : World -> Prop} {L : Nat}
def fM(P:Program)(md:Region.Mode)(ops:Array Oper)(Q:Exit->Act->World->Prop)(S:World->Prop)(L:Nat):Nat->Array Bool->Act->World->Prop
 | 0,listed,a,w=>Region.ready md ops listed=[]/\Q .normal a w
 | fuel+1,listed,a,w=>
  (Region.ready md ops listed=[]->Q .normal a w)/\
  ∀i∈Region.ready md ops listed,wpOp P ops Q i (fun a' w'=>(i<L->S w')/\fM P md ops Q S L fuel (listed.setIfInBounds i true) a' w') a w
theorem uI:∀(fuel:Nat) (listed:Array Bool) (a:Act) (w:World),fM P md ops Q S L fuel listed a w->wpAny P md ops Q fuel listed a w
 | 0,_,_,_,h=>h
 | fuel+1,_,_,_,h=>⟨h.1,fun i d=>wpOp_mono (fun b w' c=>uI fuel _ b w' c.2) (h.2 i d)⟩
theorem gF{i:Nat}{oi:Oper}{fuel:Nat}{listed:Array Bool}{a:Act}{w:World}(hr:Region.ready md ops listed=[i])(g:ops[i]?=some oi)(f:oi.guard=none)
  (h:∀K':Act->World->Prop,(∀a' w',(i<L->S w')->fM P md ops Q S L fuel (listed.setIfInBounds i true) a' w'->K' a' w')->oi.wp P a w K' Q):fM P md ops Q S L (fuel+1) listed a w:=by
 refine⟨fun c=>by simp[hr]at c,fun j b=>?_⟩;rw[hr]at b;simp only[List.mem_singleton]at b;subst b;unfold wpOp;simp only[g];rw[if_pos (by simp[Region.wanted,f])];exact .inl (h _ fun _ _ d e=>⟨d,e⟩)
theorem qJ{listed:Array Bool}{a:Act}{w:World}(hr:Region.ready md ops listed=[])(h:Q .normal a w):∀fuel,fM P md ops Q S L fuel listed a w
 | 0=>⟨hr,h⟩
 | _+1=>⟨fun _=>h,by rw[hr];simp⟩
theorem qK(S:World->Prop)(L:Nat){id:Nat}{a:Act}{w:World}(b:P.follows .mixedOrders=true)
  (h:fM P .any ops Q S L ops.size (Array.replicate ops.size false) a w.drew):(Code.region id ops true).wp P Q a w:=
 wp_region_any b (uI _ _ _ _ h)
theorem aDD{i fd:Nat}(J:∀k,L<=k->k<ops.size->dep md ops fd k i=true){oi:Oper}{v:Value}(s:ops[i]?=some oi)(A:∀(j:Nat) (o:Oper) cs b,ops[j]?=some o->o.op≠.select cs b)
  (O:∀c a w,Q (.panic c) (a.put oi.dst v) w->Q (.panic c) a w) (fuel:Nat):
  ∀(listed:Array Bool) (a:Act) (w:World),kT md ops listed->
   (∀j oj,ops[j]?=some oj->j≠i->listed.getD j true=false->(∀e∈oj.after,Region.binds md e=true->e.on≠i)->oi.apart ops oj=true)->
   i∈Region.ready md ops listed->YieldsIf P ops S oi v a->S w->
   fM P md ops Q S L fuel (listed.setIfInBounds i true) (a.put oi.dst v) w->fM P md ops Q S L (fuel+1) listed a w:=by
 induction fuel with
 | zero=>
  intro listed a w _ _ g r n H;refine⟨fun h=>by simp[h]at g,fun j f=>?_⟩;by_cases d:j=i
  ·subst d
   exact r.wpOp s n ⟨fun _=>n,H⟩
  ·have V:=ready_mono f d
   simp[H.1]at V
 | succ fuel ih=>
  intro listed a w u y g r n H;refine⟨fun h=>by simp[h]at g,fun j f=>?_⟩;by_cases d:j=i
  ·subst d
   exact r.wpOp s n ⟨fun _=>n,H⟩
  ·have F:j<ops.size:=by
    obtain⟨_,oj,l,_⟩:=mem_ready.1 f;exact(Array.getElem?_eq_some_iff.1 l).1
   have E:j<L:=Nat.lt_of_not_le fun e=>d (vG u (J j e F) g f).symm;obtain⟨z,oj,l,I⟩:=mem_ready.1 f;have B:∀e∈oj.after,Region.binds md e=true->e.on≠i:=fun e T R D=>by
    have m:=I e T R;have q:=(mem_ready.1 g).1;rw[D]at m;simp only[Array.getD_eq_getD_getElem?]at q m;cases x:listed[i]? with
    | none=>simp[x]at q
    | some b=>simp[x]at q m;rw[q]at m;cases m
   have K:=wpOp_putIf l (y j oj l d z B) (fun cs b=>A i oi cs b s) (fun cs b=>A j oj cs b l) O r (H.2 j (ready_mono f d));refine wpOp_mono (fun G w' M=>?_) K;obtain⟨Z,t,N⟩:=M;refine⟨t,ih (listed.setIfInBounds j true) G w' (u.step f) (fun k Y U W C X=>y k Y U W ?_ X) (ready_mono g (Ne.symm d)) Z (t E) ?_⟩
   ·by_cases p:j=k
    ·exact p▸z
    ·rwa [getD_set_ne true p]at C
   ·rw[Array.setIfInBounds_comm _ _ d]
    exact N
theorem eH{i:Nat}{oi:Oper}(t:Nat)(v:Value){fuel:Nat}{listed:Array Bool}{a:Act}{w:World}(e:((List.range ops.size).all fun k=>decide (k<L) || dep md ops ops.size k i)=true)(m:wS md ops listed=true)(d:ops[i]?=some oi)
  (b:Region.noSelect ops=true) (j:Region.free md ops listed i=true) (hr:(Region.ready md ops listed).contains i=true)
  (f:∀c a w,Q (.panic c) (a.put oi.dst v) w->Q (.panic c) a w) (l:oi.guard=none) (ht:oi.dst=some t) (g:S w) (hy:∀w,S w->(execOp a.eval oi).run P w=.ok (.value v) w)
  (h:fM P md ops Q S L fuel (listed.setIfInBounds i true) (a.put (some t) v) w):fM P md ops Q S L (fuel+1) listed a w:=
 aDD (fd:=ops.size) (fun k n b=>by have:=List.all_eq_true.1 e k (List.mem_range.2 b);simp only[Bool.or_eq_true,decide_eq_true_eq]at this;exact this.resolve_left (by omega)) d (Region.noSelect_spec b) f fuel listed a w (nM m) (Region.free_spec d j) (by simpa using hr) (.inl ⟨by simp[Region.wanted,l],hy⟩) g (by rw[ht];exact h)
theorem aBB{i:Nat}(W:L<=i){oi:Oper}{v:Value}(s:ops[i]?=some oi)(y:∀(j:Nat) (o:Oper) cs b,ops[j]?=some o->o.op≠.select cs b)
  (J:∀c a w,Q (.panic c) (a.put oi.dst v) w->Q (.panic c) a w) (fuel:Nat):
  ∀(listed:Array Bool) (a:Act) (w:World),
   (∀j oj,ops[j]?=some oj->j≠i->listed.getD j true=false->(∀e∈oj.after,Region.binds md e=true->e.on≠i)->oi.apart ops oj=true)->
   i∈Region.ready md ops listed->YieldsIf P ops (fun _=>True) oi v a->
   fM P md ops Q S L fuel (listed.setIfInBounds i true) (a.put oi.dst v) w->fM P md ops Q S L (fuel+1) listed a w:=by
 induction fuel with
 | zero=>
  intro listed a w _ l p H;refine⟨fun h=>by simp[h]at l,fun j n=>?_⟩;by_cases d:j=i
  ·subst d
   exact p.wpOp s trivial ⟨fun q=>absurd q (by omega),H⟩
  ·have O:=ready_mono n d
   simp[H.1]at O
 | succ fuel ih=>
  intro listed a w u l p H;refine⟨fun h=>by simp[h]at l,fun j n=>?_⟩;by_cases d:j=i
  ·subst d
   exact p.wpOp s trivial ⟨fun q=>absurd q (by omega),H⟩
  ·obtain⟨x,oj,r,E⟩:=mem_ready.1 n
   have A:∀e∈oj.after,Region.binds md e=true->e.on≠i:=fun e M K C=>by
    have f:=E e M K;have m:=(mem_ready.1 l).1;rw[C]at f;simp only[Array.getD_eq_getD_getElem?]at m f;cases t:listed[i]? with
    | none=>simp[t]at m
    | some b=>simp[t]at m f;rw[m]at f;cases f
   have F:=wpOp_putIf r (u j oj r d x A) (fun cs b=>y i oi cs b s) (fun cs b=>y j oj cs b r) J p (H.2 j (ready_mono n d));refine wpOp_mono (fun D w' G=>?_) F;obtain⟨V,z,I⟩:=G;refine⟨z,ih (listed.setIfInBounds j true) D w' (fun k U N R B T=>u k U N R ?_ T) (ready_mono l (Ne.symm d)) V ?_⟩
   ·by_cases g:j=k
    ·exact g▸x
    ·rwa [getD_set_ne true g]at B
   ·rw[Array.setIfInBounds_comm _ _ d]
    exact I
theorem uH{i:Nat}{oi:Oper}(t:Nat)(v:Value){fuel:Nat}{listed:Array Bool}{a:Act}{w:World}(d:L<=i)(b:ops[i]?=some oi)
  (j:Region.noSelect ops=true) (f:Region.free md ops listed i=true) (hr:(Region.ready md ops listed).contains i=true)
  (e:∀c a w,Q (.panic c) (a.put oi.dst v) w->Q (.panic c) a w) (g:oi.guard=none) (ht:oi.dst=some t) (hy:∀w,(execOp a.eval oi).run P w=.ok (.value v) w)
  (h:fM P md ops Q S L fuel (listed.setIfInBounds i true) (a.put (some t) v) w):fM P md ops Q S L (fuel+1) listed a w:=
 aBB d b (Region.noSelect_spec j) e fuel listed a w (Region.free_spec b f) (by simpa using hr) (.inl ⟨by simp[Region.wanted,g],fun w _=>hy w⟩) (by rw[ht];exact h)
end
