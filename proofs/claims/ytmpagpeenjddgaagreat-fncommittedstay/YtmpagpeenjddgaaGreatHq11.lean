import Derived.Test.YtmpagpeenjddgaaGreatHq9
set_option maxHeartbeats 9999999
set_option maxRecDepth 99999
set_option linter.all false
namespace Go.Proofs.YtmpagpeenjddgaaGreat
open Go.RowKit Fo
variable{K:Int}{b c:Nat}
theorem mB{α β:Type}(R:Nat->α->β->Prop):∃m:α->β->Nat,(∀x y h,R h x y->R (m x y) x y)/\∀x y h,R h x y->m x y<=h:=by
 have key:∀x y,∃n,(∀h,R h x y->R n x y)/\∀h,R h x y->n<=h:=fun x y=>by
  by_cases e:∃h,R h x y
  ·obtain⟨h,a⟩:=e
   induction h using Nat.strongRecOn with
   | ind h ih=>
    by_cases e:∃b,b<h/\R b x y
    ·obtain⟨b,d,f⟩:=e;exact ih b d f
    ·exact⟨h,fun _ _=>a,fun b c=>Nat.le_of_not_lt fun g=>e ⟨b,g,c⟩⟩
  ·exact⟨0,fun h a=>absurd ⟨h,a⟩ e,fun h a=>absurd ⟨h,a⟩ e⟩
 refine⟨fun x y=>(key x y).choose,fun x y h a=>(key x y).choose_spec.1 h a,fun x y h a=>(key x y).choose_spec.2 h a⟩
theorem aLA(W:World)(k:ByteArray):(Instr.build 130 #[(0,.string k)]).run Tryz.prog W=.ok (.agg #[.string k,.string .empty,.int .i64 0]) W:=by kernel_rfl
structure PuP(k:Nat)(L:Int)(w:World)(ρ:Nat->Nat)(P:Nat)(A:Adr)(f:fZ)(J:List aR)(r:Option (fZ×Bool))(e:Ending)(w':World):Prop where
 no:r=none->Pk k w ρ P f J e w'
 yes:∀g th,r=some (g,th)->∃ρ' A' J',e=.returned (.bool th)/\Dn k (fun _=>True) w ρ P A f J w' ρ' A' g J'/\Sz L g
structure PuR(w:World)(ρ:Nat->Nat)(P:Nat)(A:Adr)(f:fZ)(J:List aR)(K:Int)(t H:Nat)(key val:ByteArray)(r:Option (fZ×Bool))(h:Nat)(v:Value)(W:World):Prop where
 le:h<=H
 ex:∃q b ρ' A' f' J' Pt lo hi,v=.pointer (some ⟨q,0,none⟩)/\A'.φ b=some q/\Dn (14+13*(H-h)) (fun _=>True) w ρ P A f J W ρ' A' f' J'/\Sz (K+10+10*((H-h:Nat):Int)) f'/\(∃H',Wk f' t H'/\aN f' t H' Pt b h lo hi)/\loR lo key/\hiR hi key/\sz f'.n b<5/\Tch b J'/\putAt h f' b key val=r
theorem aNS(w:World)(ρ:Nat->Nat)(P:Nat)(A:Adr)(f:fZ)(J:List aR)(t H:Nat)(key val:ByteArray)(M4:St w ρ P A f J)(hW:Wk f t H)(hz:Sz K f)(uq:1<=K)(hK:K+10*(H+3)<=700000)(lm:J.length+13*(H+3)<=600000):
  Calls Tryz.prog 81 #[.pointer (some ⟨P,0,none⟩),.pointer (some ⟨A.ra,t*2+1,none⟩),.agg #[.string key,.string val]] w (PuP (13*(H+3)) (K+10*(H+3)) w ρ P A f J (put f t H key val)):=by
 have H0:=aLA;have lq:=rE;obtain⟨B,HB⟩:=exH (w.heap.size);obtain⟨w0,QQ⟩:=exH (w.alloc (.cells #[.string key,.string val] 121));have dz:Bl w w0:=by rw[QQ.out];exact(bQ w.heap.size w).alloc (nR _) _
 have bm:IsC w0 B #[.string key,.string val] 121:=by rw[QQ.out,HB.out];exact IsC.new _ _ _
 have tu:=M4.below dz;have Pf:ρ B=0:=Nat.eq_zero_of_not_pos fun q=>by
  obtain⟨_,_,_,hR,_⟩:=id M4;have:=hR.own B (by omega);rw[HB.out]at this;omega
 have Hy:∀k L e w',PuP k L w0 ρ P A f J (put f t H key val) e w'->PuP k L w ρ P A f J (put f t H key val) e w':=fun k L e w' hp=>by
  refine⟨fun q=>?_,fun g th q=>?_⟩
  ·obtain⟨U,ρ',A',g,J',a,b,c⟩:=hp.no q
   exact⟨U,ρ',A',g,J',a,(Mv.aa dz).trans b (fun _ _ e=>e),c⟩
  ·obtain⟨ρ',A',J',a,b,c⟩:=hp.yes g th q
   exact⟨ρ',A',J',a,⟨b.st,(Mv.aa dz).trans b.mv (fun _ _ e=>e),b.js,b.ad⟩,c⟩
 have HP:=aA Hy;have hL:dT f (.root t):=hW.tl;have Qp:hZ A (.root t) ⟨A.ra,t*2+1,none⟩:=rfl;clear Hy;go_enter Tryz.func81,Tryz.ntmps81;go_wp2_with fail;rw[<-QQ.out,<-HB.out];refine(iO w0 ρ P A f J (.root t) ⟨A.ra,t*2+1,none⟩ tu hW.ic hz uq (by omega) (by omega) hL Qp (fun b i e=>by cases e)).mono ?_;intro e w3 hT;cases al:shadow f (.root t)with
 | none=>
  obtain⟨rfl,ρ3,A3,g3,J3,a1,a2,a3⟩:=hT.no al;have ll:put f t H key val=none:=by simp only[put,al]
  exact⟨rfl,HP.out _ _ _ _ ⟨fun _=>⟨rfl,ρ3,A3,g3,J3,a1,a2,a3.up (by omega)⟩,fun g c ce=>by rw[ll]at ce;cases ce⟩⟩
 | some gc=>
  obtain⟨g1,r⟩:=gc;obtain⟨ρ3,A3,J3,q3,rfl,BY,s,Cl,ww⟩:=hT.yes g1 r al;obtain⟨w1,p1,a1,a2,a3,a4,-,a6⟩:=hW.ak al;obtain⟨⟨X,y⟩,R⟩:=w1.ic.live (x:=r) (by rw[a3];omega);have av:y.length<=5:=by
   obtain⟨d',d1,_,d2,_⟩:=((p1.ok w1.ok).1).bj;rw[R]at d1;cases d1;exact d2
  obtain⟨q3',O,F,Vh,Oc,so⟩:=s.st.ah R;rw[BY]at F;cases F;have Cw:A3.ra=A.ra:=s.ad.ra;have HD:Hid (put f t H key val=if y.length=5 then match bL g1 t r with
   | none=>none
   | some (k,top)=>putAt (H+1) k top key val
   else putAt H g1 r key val):=by
   show put f t H key val=_
   unfold put;rw[al];simp only[aE R];rfl
  obtain⟨m,xw,ol⟩:=mB (PuR w0 ρ P A f J K t (H+1) key val (put f t H key val));have C1:=aA xw;have FN:=aA ol;have HX:=aA (aI hK lm);clear xw ol hK lm;by_cases og:y.length=5
  case' pos=>
   have Ah:decide (y.length=5)=true:=by simpa using og
   have H5:=aA og;clear og hT av;go_wp2_with fail;refine(nW q3 (X,y) _ O _ so).mono ?_;rintro e S ⟨rfl,cx⟩;rw[cx];clear cx S;go_wp2_with fail;rw[<-Cw];refine(zI (K:=K+10) w3 ρ3 P A3 g1 J3 t r X y s.st w1.ic ww (by omega) (by have:=HX.out;omega) (by have:=s.js.len;have:=HX.out;omega) w1.tl a1 R H5.out Cl).mono ?_;intro e S hG;rcases bo:bL g1 t r with _ | ⟨g2,top⟩
   ·have ll:put f t H key val=none:=by rw[HD.out,if_pos H5.out,bo]
    obtain⟨rfl,ρ4,A4,g4,I,b1,b2,b3⟩:=hG.no bo;exact⟨rfl,HP.out _ _ _ _ ⟨fun _=>⟨rfl,ρ4,A4,g4,I,b1,s.mv.trans b2 (fun _ _ e=>e),(s.js.trans b3).up (by omega)⟩,fun g c ce=>by rw[ll]at ce;cases ce⟩⟩
   obtain⟨ρ4,A4,I,q4,rfl,tj,EI,Q7,je⟩:=hG.yes g2 top bo;have Qw:∃h0,PuR w0 ρ P A f J K t (H+1) key val (put f t H key val) h0 (.pointer (some ⟨q4,0,none⟩)) S:=by
    have Ey:=bo;unfold bL at bo;rw[aE R]at bo;simp only at bo;by_cases ph:aF g1=0
    ·rw[if_pos ph]at bo;cases bo
    ·rw[if_neg ph]at bo
     generalize hT:aF (takeAt (setN g1 r (X,y.take 3)) (aF g1) (X,y.drop 3))=tp at *;by_cases ei:tp=0
     ·rw[if_pos ei]at bo;cases bo
     ·rw[if_neg ei]at bo
      simp only[sJ,Prod.mk.injEq]at bo;obtain⟨F,rfl⟩:=bo;obtain⟨l1,l2,l3,l4⟩:=aO ph;obtain⟨m1,m2,m3,m4⟩:=aO (hT▸ei);rw[hT]at m1 m2 m3;have pf:∀x,cu (takeAt (setN g1 r (X,y.take 3)) (aF g1) (X,y.drop 3)) x=if aF g1=x then 1 else cu g1 x:=fun x=>dV (f:=setN g1 r (X,y.take 3)) (X,y.drop 3) l2 x;rw[pf]at m3;have ui:tp≠aF g1:=fun e=>by rw[if_pos e.symm]at m3;omega
      rw[if_neg (Ne.symm ui)]at m3;have m2':tp<g1.c.length:=by simpa [takeAt,setN] using m2
      have h5:=H5.out;rw[<-a1]at a3 R F;obtain⟨w2,p2,b1,b2,b3⟩:=w1.grow a3 R (m:=3) (by omega) (by omega) l1 l2 l3 m1 m2' m3 ui;rw[F]at w2 p2 b3;refine⟨H+1,nR _,q4,tp,ρ4,A4,g2,I,_,_,_,rfl,tj,⟨EI.st,s.mv.trans EI.mv (fun _ _ e=>e),(s.js.trans EI.js).up (by omega),(s.ad.trans EI.ad).up fun _ _=>trivial⟩,je.up (by omega),⟨_,w2,p2⟩,trivial,trivial,by unfold sz;rw[b3];simp,Q7,?_⟩;rw[HD.out,if_pos H5.out,Ey]
   clear s EI hG bo so R;go_wp2
  case' neg=>
   have Ah:decide (y.length=5)=false:=by simpa using og
   have H5:=aA og;have Im:=aA av;clear og hT av;go_wp2_with fail;refine(nW q3 (X,y) _ O _ so).mono ?_;rintro e S ⟨rfl,cx⟩;rw[cx];clear cx S;have Qw:∃h0,PuR w0 ρ P A f J K t (H+1) key val (put f t H key val) h0 (.pointer (some ⟨q3,0,none⟩)) w3:=by
    refine⟨H,Nat.le_succ _,q3,r,ρ3,A3,g1,J3,_,_,_,rfl,BY,⟨s.st,s.mv,s.js.up (by omega),s.ad.top⟩,ww.up (by omega),⟨_,w1,p1⟩,trivial,trivial,?_,Cl,?_⟩
    ·unfold sz;rw[R];have:=H5.out;have:=Im.out;simp only;omega
    ·rw[HD.out,if_neg H5.out]
   clear s so R;go_wp2
  all_goals (
   clear HD H5 Cw;have Dw:=Qw;clear Qw;go_loopw [7] (fun v wr=>∃h,PuR w0 ρ P A f J K t (H+1) key val (put f t H key val) h v wr) (fun v wr=>m v wr)
   case atStart=>exact Dw
   case round=>
    obtain⟨h',Aa⟩:=hrel;have hR:=C1.out _ _ _ Aa;clear Aa Dw;obtain⟨h,Hh⟩:=exH (m u7 wr);rw[<-Hh.out]at hR;obtain⟨oh,q,b,ρ4,A4,N,I,Pt,lo,hi,rfl,tj,s,je,⟨H',S,p4⟩,nf,AJ,h5,Fb,cw⟩:=hR;have lh:IsC wr B #[.string key,.string val] 121:=bm.ae s.mv.ae (fun e=>by rcases e with e | e;exact e Pf;exact e);have nm:=aA oh;clear oh;cases h with
    | succ h=>
     obtain⟨es,ah,ue,aw⟩:=p4.inner S;obtain⟨q',l,F,yg,ye,V⟩:=s.st.ah ah;rw[tj]at F;cases F;have c0:wr.cell? ⟨q,0,none⟩=some (.int .i64 2):=by rw[V.box.cell];rfl
     have ck:wr.cell? ⟨B,0,none⟩=some (.string key):=lh.c rfl;go_wp2_with fail;refine(aAR (K:=K+10+10*((H+1 -(h+1):Nat):Int)) wr ρ4 P A4 N I t H' Pt b h lo hi key q s.st S p4 nf h5 tj je (by omega) (by have:=HX.out;have:=nm.out;omega) (by have:=HX.out;have:=s.js.len;have:=nm.out;omega) Fb).mono ?_;intro e C hS;cases jx:stepDown N b key with
     | none=>
      obtain⟨rfl,ρ5,A5,D,J5,b1,b2,b3⟩:=hS.no jx;have ll:put f t H key val=none:=by rw[<-cw];unfold putAt;rw[jx]
      exact⟨rfl,HP.out _ _ _ _ ⟨fun _=>⟨rfl,ρ5,A5,D,J5,b1,s.mv.trans b2 (fun _ _ e=>e),(s.js.trans b3).up (by have:=nm.out;omega)⟩,fun g c ce=>by rw[ll]at ce;cases ce⟩⟩
     | some gc=>
      obtain⟨D,c5⟩:=gc;obtain⟨ρ5,A5,J5,q5,rfl,Pg,nk,Jd,BD⟩:=hS.yes D c5 jx;obtain⟨P',lo',ap,w6,p6,l1,l2,l3,-,-⟩:=S.stepDown p4 nf AJ h5 jx;have ms:PuR w0 ρ P A f J K t (H+1) key val (put f t H key val) h (.pointer (some ⟨q5,0,none⟩)) C:=by
       refine⟨by have:=nm.out;omega,q5,c5,ρ5,A5,D,J5,P',lo',ap,rfl,Pg,⟨nk.st,s.mv.trans nk.mv (fun _ _ e=>e),(s.js.trans nk.js).up (by have:=nm.out;omega),(s.ad.trans nk.ad).up fun _ _=>trivial⟩,BD.up (by have:=nm.out;omega),⟨_,w6,p6⟩,l1,l2,l3,Jd,?_⟩;rw[<-cw];conv=>rhs;unfold putAt;rw[jx]
      clear hS nk s;go_wp2;go_roundw
      case rel=>exact⟨h,ms⟩
      case measure=>
       have U:=FN.out _ _ _ ms;have h2:=Hh.out;exact Nat.lt_of_le_of_lt U (by show h<m _ _;rw[<-h2];exact Nat.lt_succ_self h)
    | zero=>
     obtain⟨es,ah,ue,yx⟩:=p4.leaf S;obtain⟨q',l,F,yg,ye,V⟩:=s.st.ah ah;rw[tj]at F;cases F;have BD:es.length<5:=by unfold sz at h5;rw[ah]at h5;exact h5
     have IS:put f t H key val=some (setN N b (1,putE es key val),fI es key):=by rw[<-cw];unfold putAt;rw[aE ah]
     obtain⟨a,ha⟩:∃a,a=A4.α b:=⟨_,rfl⟩;rw[<-ha]at V;have c0:wr.cell? ⟨q,0,none⟩=some (.int .i64 1):=by rw[V.box.cell];rfl
     have c1:wr.cell? ⟨q,1,none⟩=some (.slice (adr a) es.length (es.length+l.length)):=by rw[V.box.cell];rfl
     have ck:wr.cell? ⟨B,0,none⟩=some (.string key):=lh.c rfl;have GN:NRd wr.drew (.slice (adr a) es.length (es.length+l.length)) es:=V.dm.en;have DZ:=V.box.lt;have yl:=lh.lt;have ry:=aA IS;have HA:=aA ha;clear cw IS ha;go_wp2;go_region_held3 (fun w'=>w'.cell? ⟨q,1,none⟩=some (.slice (adr a) es.length (es.length+l.length))/\w'.cell? ⟨B,0,none⟩=some (.string key)) (first | go_keep | exact⟨c1,ck⟩ | exact⟨(hB.cell (p:=⟨q,1,none⟩) DZ).trans c1,(hB.cell (p:=⟨B,0,none⟩) yl).trans ck⟩) ((go_at_call 101;refine(iJ _ es key _ GN (by omega) ue.a6).mono ?_;rintro e C ⟨dz,he⟩;have Fh:e=.returned (.tuple #[.int .i64 (cLt es key),.bool (fI es key)]):=he;subst Fh;have hB:Bl wr C:=(bQ wr.heap.size wr).drew.trans dz));have de:=s.st.below hB;have oa:Mv (fun _=>False) w0 ρ C ρ4:=s.mv.trans (Mv.aa hB) (fun _ _ e=>e);have i8:=V.below hB;have sw:IsC C B #[.string key,.string val] 121:=lh.of (hB.block B yl);have av:=kV es key;obtain⟨i,HI⟩:=exH (cLt es key);rw[<-HI.out]at av |-;have Dm:=s.js;have MT:=s.ad;clear s V c0 c1 ck GN lh hB;by_cases hk:fI es key=true
     case' pos=>
      have IN:∃ρ9 Q G d,St C ρ9 P Q G I/\Mv (fun _=>False) w0 ρ C ρ9/\AdS (fun _=>True) A Q/\JS (14+13*(H+1-0)) f J G I/\Sz (K+10+10*((H+1-0:Nat):Int)) G/\G.n b=some (1,d)/\Q.φ b=some q/\i<d.length/\d.length<=5/\setN G b (1,d.set i ((d.getD i e0).1,val,(d.getD i e0).2.2))=setN N b (1,putE es key val)/\IsC C B #[.string key,.string val] 121:=by
       obtain⟨k1,k2⟩:=(dK es key).1 hk;refine⟨ρ4,A4,N,es,de,oa,MT,Dm,je,ah,tj,by rw[HI.out];exact k1,by omega,?_,sw⟩;unfold putE;rw[if_pos hk,HI.out]
      rw[hk];rw[hk]at ry;clear hk;generalize Ia:C=T at *;go_wp2
     case' neg=>
      have ly:fI es key=false:=by simpa using hk
      rw[ly];have M:(adr a,es.length,C.drew.cell? ⟨q,1,none⟩)=(adr a,es.length,some (.slice (adr a) es.length (es.length+l.length))):=by
       have:C.drew.cell? ⟨q,1,none⟩=some (.slice (adr a) es.length (es.length+l.length)):=by
        show C.cell? _=_
        rw[i8.box.cell];rfl
       rw[this]
      have uy:C.drew.cell? ⟨q,1,none⟩=some (.slice (adr a) es.length (es.length+l.length))/\C.drew.cell? ⟨B,0,none⟩=some (.string key):=by
       refine⟨by show C.cell? _=_;rw[i8.box.cell];rfl,by show C.cell? _=_;rw[sw.cell];rfl⟩
      clear M;have M:=uy;clear uy;go_wp2;refine bA (fun W=>W.cell? ⟨q,1,none⟩=some (.slice (adr a) es.length (es.length+l.length))/\W.cell? ⟨B,0,none⟩=some (.string key)) 13 (by kernel_rfl) ?_;refine tJ 0 40 (.pointer (some ⟨q,0,none⟩)) rfl M ?_;refine tJ 1 41 (.pointer (some ⟨q,0,none⟩)) rfl M ?_;refine tJ 2 42 (.pointer (some ⟨q,0,none⟩)) rfl M ?_;refine tJ 3 43 (.pointer (some ⟨q,1,none⟩)) rfl M ?_;refine tJ 4 44 (.slice (adr a) es.length (es.length+l.length)) rfl M ?_;refine tJ 5 45 (.int .i64 i) rfl M ?_;refine tJ 6 46 (.pointer (some ⟨B,0,none⟩)) rfl M ?_;refine tJ 7 47 (.string key) rfl M ?_;refine tJ 8 48 (.agg #[.string key,.string .empty,.int .i64 0]) rfl M ?_;simp only[Act.put,sB,sZ,sS];refine oE 9 rfl fun K2 z=>?_;go_simp;obtain⟨G6,AS⟩:=exH (C.heap.size);obtain⟨W6,Bd⟩:=exH ((C.alloc (.cells #[.string key,.string .empty,.int .i64 0] 130)).drew);rw[<-Bd.out,<-AS.out];have AC:IsC W6 G6 (cC [(key,.empty,(0:Int))]) 130:=by rw[Bd.out,AS.out];exact(IsC.new C _ _).drew
      have r9:Bl C W6:=by rw[Bd.out];exact((bQ C.heap.size C).alloc (nR _) _).drew
      have Mh:∀g,a=some g->g≠G6:=fun g e=>by rw[AS.out];exact Nat.ne_of_lt (i8.arr g e).1.lt
      have Z:=i8.below r9;have rf:IsC W6 B #[.string key,.string val] 121:=sw.of (r9.block B sw.lt);have Ax:W6.cell? ⟨q,1,none⟩=some (.slice (adr a) es.length (es.length+l.length))/\W6.cell? ⟨B,0,none⟩=some (.string key):=⟨by rw[Z.box.cell];rfl,rf.c rfl⟩;refine z _ _ (fun _=>Ax) ?_;clear z K2 M;have lp:=de.below r9;refine oE 10 rfl fun K2 z=>?_;go_simp;refine(kD a es l [(key,.empty,(0:Int))] (some ⟨G6,0,none⟩) 1 i W6 (fun x e=>(Z.arr x e).1) Z.nil (.inr ⟨G6,0,1,[(key,.empty,(0:Int))],rfl,AC,by simp,by simp⟩) (fun gv o n c e e'=>by cases e;exact Mh _ e' rfl) av (by simp) (by simp;omega) Z.small).mono ?_;rintro e w7 ⟨u,rfl,el⟩;obtain⟨ua,un,uc,rfl⟩:∃ua un uc,u=.slice ua un uc:=by obtain⟨⟨a',j',e,_⟩,_⟩:=el;exact⟨_,_,_,e⟩
      have Cd:B≠q:=fun e=>by
       have U:=rf;rw[e]at U;exact IsC.ne U Z.box (by decide) rfl
      have I8:∀g,a=some g->B≠g:=fun g e e'=>by
       have U:=rf;rw[e']at U;exact IsC.ne U (Z.arr g e).1 (by decide) rfl
      have KA:IsC w7 B #[.string key,.string val] 121:=rf.ae el.ae (fun e=>I8 B e rfl);have oo:w7.cell? ⟨q,1,none⟩=some (.slice (adr a) es.length (es.length+l.length))/\w7.cell? ⟨B,0,none⟩=some (.string key):=⟨(dE (el.ae.block q Z.box.lt (fun e=>(Z.arr q e).2 rfl)) 1).trans Ax.1,KA.c rfl⟩;obtain⟨a',-,oe,BK,-,xm⟩:=lp.ins (w1:=w7) (u:=.slice ua un uc) ah tj (by rw[<-HA.out];exact el);have Kt:es.take i++[(key,.empty,(0:Int))]++es.drop i=insE es i (key,.empty,(0:Int)):=by simp[insE]
      rw[Kt]at oe;have eX:b<N.c.length:=je.lt b _ ah;have IN:∃ρ9 Q G d,St (w7.setCell ⟨q,1,none⟩ (.slice ua un uc)) ρ9 P Q G I/\Mv (fun _=>False) w0 ρ (w7.setCell ⟨q,1,none⟩ (.slice ua un uc)) ρ9/\AdS (fun _=>True) A Q/\JS (14+13*(H+1-0)) f J G I/\Sz (K+10+10*((H+1-0:Nat):Int)) G/\G.n b=some (1,d)/\Q.φ b=some q/\i<d.length/\d.length<=5/\setN G b (1,d.set i ((d.getD i e0).1,val,(d.getD i e0).2.2))=setN N b (1,putE es key val)/\IsC (w7.setCell ⟨q,1,none⟩ (.slice ua un uc)) B #[.string key,.string val] 121:=by
       have ew:(insE es i (key,.empty,(0:Int))).length=es.length+1:=by simp only[insE,lP,List.length_take,List.length_cons,List.length_drop];omega
       refine⟨_,_,_,insE es i (key,.empty,(0:Int)),oe,(oa.trans (Mv.aa r9) (fun _ _ e=>e)).trans BK (fun _ _ e=>e),(MT.trans (AdS.arr A4 b a')).up fun _ _=>trivial,Dm.trans (JS.setN _ Fb),je.setN eX (by simp only;omega),aD _ _ _,tj,by omega,by omega,?_,KA.set_ne _ Cd⟩;have e9:(insE es i (key,.empty,(0:Int))).getD i e0=(key,.empty,(0:Int)):=by
        rw[jR _ _ _ _ av,if_neg (by omega),if_pos rfl]
       rw[e9];have e10:(insE es i (key,.empty,(0:Int))).set i (key,val,0)=insE es i (key,val,0):=by
        unfold insE;rw[List.set_append_right _ _ (by simp;omega),List.length_take,show i-min i es.length=0 by omega];rfl
       simp only
       rw[e10];unfold putE;rw[if_neg hk,HI.out];unfold setN;simp only;congr 1;funext x;by_cases ex:x=b<;>simp[upd,ex]
      refine z _ _ (fun _=>oo) ?_;clear z K2 Ax oe BK lp el Z AC rf;refine oE 11 rfl fun K2 z=>?_;go_simp;refine z _ _ (fun _=>oo) ?_;clear z K2;refine oE 12 rfl fun K2 z=>?_;go_simp;refine z _ _ (fun _=>oo) ?_;clear z K2;obtain⟨CS,-⟩:=oo;refine oE 13 rfl fun K2 z=>?_;go_simp;refine z _ _ (fun q=>absurd rfl q) ?_;clear z K2;refine aS (by kernel_rfl) ?_ _;clear CS KA xm;rw[ly]at ry;clear hk ly;generalize Ia:w7.setCell ⟨q,1,none⟩ (.slice ua un uc)=T at *;go_wp2
     all_goals (
      obtain⟨ρ9,Q,G,d,q7,Ci,QU,Mm,BW,fl,Vj,X9,PR,bp,NJ⟩:=IN;clear de oa i8 sw Ia;obtain⟨q',E,F,ZL,ZI,JR⟩:=q7.ah fl;rw[Vj]at F;cases F;obtain⟨D,Fj⟩:=JR.bd (by simp only;omega);rw[Fj]at JR;have Fa:=JR.cp (i:=i) (j:=1) (v:=.string val) (e':=((d.getD i e0).1,val,(d.getD i e0).2.2)) X9 (by omega) (by simp[aJ]);obtain⟨Q2,FY⟩:=q7.aw (w':=T.setCell ⟨D,i*3+1,none⟩ (.string val)) fl Vj (Frm.set T (p:=⟨D,i*3+1,none⟩) (.inr Fj) _) (by rw[Fj];exact Fa);rw[bp]at Q2;have RL:b<G.c.length:=BW.lt b _ fl;have AQ:Sz (K+10*(H+3)) (setN N b (1,putE es key val)):=by rw[<-bp];exact(BW.up (by omega)).setN RL (by simp only[List.length_set];omega)
      have UJ:JS (13*(H+3)) f J (setN N b (1,putE es key val)) I:=by rw[<-bp];exact(Mm.trans (JS.setN _ Fb)).up (by omega)
      have HF:=aA (show Dn (13*(H+3)) (fun _=>True) w0 ρ P A f J (T.setCell ⟨D,i*3+1,none⟩ (.string val)) ρ9 Q (setN N b (1,putE es key val)) I/\Sz (K+10*(H+3)) (setN N b (1,putE es key val))from⟨⟨Q2,Ci.trans FY (fun _ _ e=>e),UJ,QU⟩,AQ⟩);have Y:T.drew.cell? ⟨q,1,none⟩=some (.slice (some ⟨D,0,none⟩) d.length (d.length+E.length))/\T.drew.cell? ⟨B,1,none⟩=some (.string val):=⟨by show T.cell? _=_;rw[JR.box.cell];rfl,by show T.cell? _=_;rw[NJ.cell];rfl⟩;have Fm:((i:Nat):Int) <(d.length:Int):=by omega
      obtain⟨wm,KY⟩:(∃v,T.cell? ⟨D,i*3+1,none⟩=some v)/\T.frozen? ⟨D,i*3+1,none⟩=false:=⟨⟨_,(bJ (JR.arr D rfl).1 (i:=i) (by simp;omega)).2.1⟩,(JR.arr D rfl).1.frozen _⟩;obtain⟨ve,wm⟩:=wm;clear Q2 FY AQ UJ bp Fa q7 Ci JR NJ Mm BW;refine bA (fun W=>W.cell? ⟨q,1,none⟩=some (.slice (some ⟨D,0,none⟩) d.length (d.length+E.length))/\W.cell? ⟨B,1,none⟩=some (.string val)) 9 (by kernel_rfl) ?_;refine tJ 0 53 (.pointer (some ⟨q,0,none⟩)) rfl Y ?_;refine tJ 1 54 (.pointer (some ⟨q,0,none⟩)) rfl Y ?_;refine tJ 2 55 (.pointer (some ⟨q,1,none⟩)) rfl Y ?_;refine tJ 3 56 (.slice (some ⟨D,0,none⟩) d.length (d.length+E.length)) rfl Y ?_;refine tJ 4 57 (.int .i64 i) rfl Y ?_;refine tJ 5 58 (.pointer (some ⟨B,1,none⟩)) rfl Y ?_;refine tJ 6 59 (.string val) rfl Y ?_;simp only[Act.put,sB,sZ,sS];refine oE 7 rfl fun K2 z=>?_;go_simp;refine z _ _ (fun _=>Y) ?_;clear z K2;refine oE 8 rfl fun K2 z=>?_;go_simp;refine z _ _ (fun _=>Y) ?_;clear z K2;refine oE 9 rfl fun K2 z=>?_;go_simp;refine z _ _ (fun q=>absurd rfl q) ?_;clear z K2;refine aS (by kernel_rfl) ?_ _;go_wp2;go_ret;obtain⟨Bk,AQ⟩:=HF.out;refine HP.out _ _ _ _ ⟨fun q=>(by rw[ry.out]at q;cases q),fun g th hgt=>?_⟩;rw[ry.out]at hgt;cases hgt;exact⟨ρ9,Q,I,rfl,Bk.below (by first | exact bQ _ _ | exact(bQ _ _).drew),AQ⟩))
theorem aGM(f:fZ)(h:b≠c)(d e:Nd):setN (setN f b d) c e=setN (setN f c e) b d:=by
 have:upd (upd f.n b (some d)) c (some e)=upd (upd f.n c (some e)) b (some d):=funext fun x=>by
  by_cases a:x=b<;>by_cases g:x=c<;>simp[upd,a,g]
  ·exact absurd (a.symm.trans g) h
  ·intro e;exact absurd e h
  ·intro e;exact absurd e.symm h
 unfold setN;simp only;rw[this]
theorem bD(f:fZ){x:Nat}(d:Nd)(h:x≠b):(setN f b d).n x=f.n x:=aC _ _ h
theorem tE(f:fZ)(b:Nat)(d:Nd):(setN f b d).n b=some d:=aD _ _ _
theorem rH(a:Option Nat)(es b vs:List E3)(v:Value)(W:World)(n:∀g,a=some g->IsC W g (cC (es++b)) 130)(hn:a=none->es=[]/\b=[])(p:Esl W v vs)(f:es.length+vs.length<=20)(o:es.length+b.length<=maxLen)(d:0<vs.length):
  ∃ua un uc W',(∀ty,(Builtin.append_ #[94,94] ty #[.slice (adr a) es.length (es.length+b.length),v]).run Tryz.prog W=.ok (.slice ua un uc) W')/\yC W W' a (.slice ua un uc) (es++vs):=by
 obtain⟨u,W',h,c,i,rfl,j,k,l,m⟩:=yD a es b vs v W n hn p f o;refine⟨_,_,_,W',i,⟨⟨h,c,by simp,j,fun e=>?_,by simpa using l⟩,m⟩⟩;have:=(k e).2.1;rw[this]at d;simp at d
theorem rne(h:b≠c):cJ b≠cJ c/\cJ b≠cG c/\cG b≠cJ c/\cG b≠cG c:=by unfold cJ cG;omega
theorem aKH{l:List E3}(h:0<l.length):l.take 1=[l.getD 0 e0]:=by
 cases l with
 | nil=>simp at h
 | cons a l=>rfl
theorem aNI(l:List E3):delE l 0=l.drop 1:=by simp[delE]
theorem aDP(W:World)(k v:ByteArray)(c:Int):(Instr.field 130 (.agg #[.string k,.string v,.int .i64 c]) 2).run Tryz.prog W=.ok (.int .i64 c) W:=by kernel_rfl
theorem aBV(l:List E3)(i:Nat):(l.drop i).getD 0 e0=l.getD i e0:=by simp[gD]
structure FlP(w:World)(ρ:Nat->Nat)(P:Nat)(A:Adr)(f:fZ)(J:List aR)(b c:Nat)(r:Option fZ)(K:Int)(e:Ending)(w':World):Prop where
 no:r=none->Pk 12 w ρ P f J e w'
 yes:∀g,r=some g->e=.returned (.tuple #[])/\∃ρ' A' J',Dn 12 (fun _=>True) w ρ P A f J w' ρ' A' g J'/\A'.φ b=A.φ b/\A'.φ c=A.φ c/\Sz (K+10) g
theorem zF(w:World)(ρ:Nat->Nat)(P:Nat)(A:Adr)(f:fZ)(J:List aR)(t H:Nat)(Pt:List Nat)(b h:Nat)(lo hi:OB)(es:List E3)(i c:Nat)(kk:Int)(d:List E3)(q C:Nat)(tu:St w ρ P A f J)(U:Wk f t H)(hp:aN f t H Pt b (h+1) lo hi)(M:f.n b=some (2,es))(ap:i+1<es.length)(hc:c=kd es i)(hd:f.n c=some (kk,d))(cc:cu f c=1)(av:d.length=2)(hφ:A.φ b=some q)(Cz:A.φ c=some C)(hz:Sz K f)(uq:1<=K)(hK:K<=700000)(lm:J.length<=600000)(sf:Tch b J)(FE:Tch c J):
  Calls Tryz.prog 125 #[.pointer (some ⟨P,0,none⟩),.pointer (some ⟨q,0,none⟩),.int .i64 i,.pointer (some ⟨C,0,none⟩)] w (FlP w ρ P A f J b c (fillNext f b i c) K):=by
 have lq:=rE;have KY:=aDP;obtain⟨m,tq⟩:=exH (i+1);have gd:=hz.ai b _ M;simp only at gd;have Q:m<es.length:=by rw[tq.out];exact ap
 obtain⟨s,Hs⟩:=exH (kd es m);have vf:s∈kids (2,es):=by rw[Hs.out];exact aQ Q
 have fq:c∈kids (2,es):=by rw[hc];exact aQ (by omega)
 obtain⟨⟨z,a⟩,Z⟩:=U.ic.af M vf;obtain⟨es0,q1,e2,e3,e4,e5⟩:=(hp.ok U.ok).1;rw[M]at q1;cases q1;have rh:z=kk:=by
  have AD:=(dO (hc▸hd)).1 (e5 i (by omega)).2;have BL:=(dO (Hs.out▸Z)).1 (e5 m Q).2;cases h with
  | zero=>have a1:=AD.1;have a2:=BL.1;simp only at a1 a2;omega
  | succ h=>have a1:=AD.1;have a2:=BL.1;simp only at a1 a2;omega
 subst rh;have ku:2<=a.length:=by have:=(e5 m Q).1;unfold sz at this;rw[<-Hs.out,Z]at this;exact this
 have uh:=hz.ai s _ Z;simp only at uh;have gj:c≠s:=fun e=>by
  rw[hc,Hs.out]at e;have:=dZ (U.ic.only (hc▸cc) M (hc▸fq)).2.1 (by omega) Q e.symm;have:=tq.out;omega
 have CC:b≠s:=fun e=>U.ic.ag M (e▸vf);have o9:b≠c:=fun e=>U.ic.ag M (e▸fq);have eX:b<f.c.length:=hz.lt b _ M;have KJ:c<f.c.length:=hz.lt c _ hd;have ee:s<f.c.length:=hz.lt s _ Z;have CE:(es.getD m e0).2.2=(s:Int):=by
  have h1:=U.ic.ar M Q;rw[Hs.out];unfold kd ch;omega
 obtain⟨q',junk,L,yg,ye,hN⟩:=tu.ah M;rw[hφ]at L;cases L;obtain⟨g,hg⟩:=hN.bd (by simp only;omega);rw[hg]at hN;obtain⟨X,r,TR,TP,Od,Fa⟩:=tu.ah Z;obtain⟨ja,jp,jj,hR,hJ⟩:=id tu;have m3:=hR.cells.m3;have c1:w.cell? ⟨q,1,none⟩=some (.slice (some ⟨g,0,none⟩) es.length (es.length+junk.length)):=by rw[hN.box.cell];rfl
 have c2:w.cell? ⟨g,m*3+2,none⟩=some (.int .i64 s):=by
  have:=(bJ (hN.arr g rfl).1 (i:=m) (by simp;omega)).2.2
  rw[gD,List.getElem?_append_left Q,<-gD]at this;rw[CE]at this;exact this
 have g8:∀n,(Instr.lookup 64 (.map (some A.m)) (.int .i64 s) false).run Tryz.prog (w.drewN n)=.ok (.pointer (some ⟨X,0,none⟩)) (w.drewN n):=fun n=>by
  have:=(hR.hm.of (w':=w.drewN n) rfl).lookup s (by have:=hz.al;omega)
  rw[TR]at this;simpa only[eV,Option.map_some] using this
 have yc:IntKind.i64.wrap ((i:Int)+1)=(m:Int):=by
  have:=tq.out
  rw[IntWalk.i64_in _ ⟨by omega,by omega⟩];omega
 have Fm:((m:Nat):Int) <(es.length:Int):=by omega
 have HF:Hid (fillNext f b i c=if 2<a.length then
   match shadow f (.ai b m)with
   | none=>none
   | some (k,s)=>some (moveF k b c s (Fo.look k c).1 ((Fo.look k c).2++(Fo.look k s).2.take 1) ((Fo.look k s).2.drop 1) ((Fo.look k b).2.set m (ky (Fo.look k s).2 1,((Fo.look k b).2.getD m e0).2)))
  else some (mergeF f b c s z (d++a) (delE es m))):=by
  show fillNext f b i c=_
  unfold fillNext;rw[aE M];simp only;rw[<-tq.out,<-Hs.out,aE Z,aE hd];rfl
 have HC:=aA (aI hc av);have Dj:=aA CE;clear hc av CE;go_enter Tryz.func125,Tryz.ntmps125;go_wp2;go_quiet (fail);clear g8 c2 m3;by_cases mq:2<a.length
 ·have Ah:decide (2<a.length)=true:=by simpa using mq
  have nh:=aA mq;clear mq c1;go_wp2_with fail;refine(gC X (z,a) _ r _ (Fa.below (below_drewN _ _))).mono ?_;rintro e F ⟨rfl,cx⟩;rw[cx];clear cx F;have Br:dT f (.ai b m):=⟨eX,es,M,Q⟩;have Bq:hZ A (.ai b m) ⟨g,m*3+2,none⟩:=⟨g,hg,rfl⟩;go_wp2_with fail;refine(iO _ ρ P A f J (.ai b m) ⟨g,m*3+2,none⟩ (tu.below (below_drewN _ _)) U.ic hz uq (by omega) (by omega) Br Bq (fun b' i' e=>by cases e;exact sf)).mono ?_;intro e F hT;cases al:shadow f (.ai b m)with
  | none=>
   obtain⟨rfl,ρ4,O,g4,J4,a1,a2,a3⟩:=hT.no al;have ll:fillNext f b i c=none:=by rw[HF.out,if_pos nh.out,al]
   exact⟨rfl,fun _=>⟨rfl,ρ4,O,g4,J4,a1,(Mv.aa (below_drewN _ _)).trans a2 (fun _ _ e=>e),a3.up (by omega)⟩,fun g ce=>by rw[ll]at ce;cases ce⟩
  | some gc=>
   obtain⟨N,E⟩:=gc;obtain⟨ρ4,O,J4,qs4,rfl,tj,cy,By,je⟩:=hT.yes N E al;have T:Dn 12 (fun x=>x=E\/x=bK f (.ai b m)) w ρ P A f J F ρ4 O N J4:=⟨cy.st,(Mv.aa (below_drewN _ _)).trans cy.mv (fun _ _ e=>e),cy.js,cy.ad⟩;clear cy hT;obtain⟨w2,p2,p3,⟨o,V,m2,m3,m4⟩,m5,m6,m7,m8,m9⟩:=U.aj hp M Q al;obtain⟨s1,s2,s3⟩:=U.bh hp M Q al;rw[<-Hs.out]at m5 s1 s2;obtain⟨x1,x2,x3⟩:=s2 _ fq gj;have H6:N.n c=some (z,d):=by rw[x1];exact hd
   have yz:N.n E=some (z,a):=by rw[m5];exact Z
   have LH:E∈kids (2,o):=by rw[<-m4];exact aQ (by rw[m2];exact Q)
   have Ej:b≠E:=fun e=>w2.ic.ag V (e▸LH);have nu:kd o i=c:=by rw[HC.out.1];unfold kd;rw[(s3 o V i).2 (by have:=tq.out;omega)]
   have yw:c≠E:=fun e=>by
    rw[<-nu,<-m4]at e;have KH:kd o i∈kids (2,o):=aQ (by rw[m2];omega);have:=dZ (w2.ic.only (by rw[nu,x2];exact cc) V KH).2.1 (by rw[m2];omega) (by rw[m2];exact Q) e.symm;have:=tq.out;omega
   have CJ:bK f (.ai b m)=s:=by simp only[bK,aE M];exact Hs.out.symm
   have NB:¬(b=E\/b=bK f (.ai b m)):=fun e=>by rw[CJ]at e;rcases e with e | e;exact Ej e;exact CC e
   have RC:¬(c=E\/c=bK f (.ai b m)):=fun e=>by rw[CJ]at e;rcases e with e | e;exact yw e;exact gj e
   have CY:O.φ b=some q:=by rw[T.ad.φ b NB];exact hφ
   have LS:O.α b=some g:=by rw[T.ad.α b NB];exact hg
   have CZ:O.φ c=some C:=by rw[T.ad.φ c RC];exact Cz
   have sj:Hid (fillNext f b i c=some (moveF N b c E z (d++a.take 1) (a.drop 1) (o.set m (ky a 1,(o.getD m e0).2)))):=by
    show fillNext f b i c=_
    rw[HF.out,if_pos nh.out,al];simp only[aE H6,aE yz,aE V]
   clear HF;obtain⟨q4',junks4,L,Oe,Ig,nn⟩:=T.st.ah yz;rw[tj]at L;cases L;obtain⟨gs,zc⟩:=nn.bd (by simp only;omega);rw[zc]at nn;obtain⟨qc',l,L,Dg,yf,vj⟩:=T.st.ah H6;rw[CZ]at L;cases L;obtain⟨G,yn⟩:∃G,G=O.α c:=⟨_,rfl⟩;rw[<-yn]at vj;have FL:=aA yn;clear yn;have I:F.drew.cell? ⟨C,1,none⟩=some (.slice (adr G) d.length (d.length+l.length)):=by show F.cell? _=_;rw[vj.box.cell];rfl
   have HM:=aA (aI m2 (aI m5 (aI m6 m7)));clear m2 m5 m6 m7 Ah;go_wp2;refine bA (fun W=>W.cell? ⟨C,1,none⟩=some (.slice (adr G) d.length (d.length+l.length))) 11 (by kernel_rfl) ?_;refine tJ 0 33 (.pointer (some ⟨C,0,none⟩)) rfl I ?_ (fun w' Y=>by obtain V:=Y;go_simp;try rfl);refine tJ 1 34 (.pointer (some ⟨C,0,none⟩)) rfl I ?_ (fun w' Y=>by obtain V:=Y;go_simp;try rfl);refine tJ 2 35 (.pointer (some ⟨C,0,none⟩)) rfl I ?_ (fun w' Y=>by obtain V:=Y;go_simp;try rfl);refine tJ 3 36 (.pointer (some ⟨C,1,none⟩)) rfl I ?_ (fun w' Y=>by obtain V:=Y;go_simp;try rfl);refine tJ 4 37 (.slice (adr G) d.length (d.length+l.length)) rfl I ?_ (fun w' Y=>by obtain V:=Y;go_simp;try rfl);refine tJ 5 38 (.pointer (some ⟨qs4,0,none⟩)) rfl I ?_ (fun w' Y=>by obtain V:=Y;go_simp;try rfl);simp only[Act.put,sB,sZ,sS];have vh:Bl F F.drew:=(bQ F.heap.size F).drew;refine oE 6 rfl fun K2 B=>?_;go_simp;refine(gV qs4 gs z a junks4 0 F.drew (nn.below vh) uh (by omega)).mono ?_;rintro e w5 ⟨rfl,⟨junks5,pw⟩,eu⟩;have GG:Frm (fun x=>x=qs4\/O.α E=some x) F w5:=(Frm.aa vh).trans (eu.wide fun x _ e=>by rcases e with e | e;exact .inl e;right;rw[zc,e]);rw[aNI]at pw;obtain⟨de,oa⟩:=T.st.aw yz tj GG (by rw[zc];exact pw);obtain⟨r1,r2,r3,r4⟩:=rne yw;have M0:∀x,x=qs4\/x=gs->ρ4 x=cJ E\/ρ4 x=cG E:=fun x e=>by
    rcases e with e | e<;>rw[e]
    ·exact .inl Oe
    ·exact .inr (Ig gs zc)
   have iq:aM w5 C (z,d) G l:=(vj.below vh).ae eu (fun e=>by
     rcases M0 C e with e | e
     ·exact r1 (Dg.symm.trans e)
     ·exact r2 (Dg.symm.trans e)) (fun x hx e=>by
     have bz:=yf x (by rw[<-FL.out];exact hx);rcases M0 x e with e | e
     ·exact r3 (bz.symm.trans e)
     ·exact r4 (bz.symm.trans e))
   have mn:w5.cell? ⟨C,1,none⟩=some (.slice (adr G) d.length (d.length+l.length)):=by rw[iq.box.cell];rfl
   obtain⟨k0,v0,c0,MA⟩:∃k0 v0 c0,Hid (a.getD 0 e0=(k0,v0,c0)):=⟨_,_,_,rfl⟩;rw[show aBF (a.getD 0 e0)=.agg #[.string k0,.string v0,.int .i64 c0] by rw[MA.out];rfl];refine B _ _ (fun _=>mn) ?_;clear B K2 I;refine oE 7 rfl fun K2 B=>?_;go_simp;obtain⟨G6,AS⟩:=exH (w5.heap.size);obtain⟨W6,Bd⟩:=exH (w5.alloc (.cells #[.string k0,.string v0,.int .i64 c0] 130));rw[<-Bd.out,<-AS.out];have AC:IsC W6 G6 (cC [(k0,v0,c0)]) 130:=by rw[Bd.out,AS.out];exact IsC.new _ _ _
   have r9:Bl w5 W6:=by rw[Bd.out];exact(bQ w5.heap.size w5).alloc (nR _) _
   have pu:=iq.below r9;have Ax:W6.cell? ⟨C,1,none⟩=some (.slice (adr G) d.length (d.length+l.length)):=by rw[pu.box.cell];rfl
   refine B _ _ (fun _=>Ax) ?_;clear B K2 mn;have lp:=de.below r9;obtain⟨ua,un,uc,S,sr,el⟩:=rH G d l [(k0,v0,c0)] (.slice (some ⟨G6,0,none⟩) 1 1) W6 (fun x e=>(pu.arr x e).1) pu.nil (.inr ⟨G6,0,1,[(k0,v0,c0)],rfl,AC,by simp,by simp⟩) (by have:=HC.out.2;simp;omega) pu.small (by simp);refine oE 8 rfl fun K2 B=>?_;refine kM (.tmp 37) (.tmp 40) _ _ (by rfl) (.slice (adr G) d.length (d.length+l.length)) (.slice (some ⟨G6,0,none⟩) 1 1) (by rfl) (by rfl) (.slice ua un uc) S (sr _) ?_;have oo:S.cell? ⟨C,1,none⟩=some (.slice (adr G) d.length (d.length+l.length)):=(dE (el.ae.block C pu.box.lt (fun e=>(pu.arr C e).2 rfl)) 1).trans Ax;have Gc:(setN N E (z,a.drop 1)).n c=some (z,d):=(bD _ _ yw).trans H6;obtain⟨D,-,oe,BK,-,xm⟩:=lp.ins (w1:=S) (u:=.slice ua un uc) Gc CZ (by rw[<-FL.out];exact el);refine B _ _ (fun _=>oo) ?_;clear B K2 Ax;simp only[Act.put,sB,sZ,sS];refine oE 9 rfl fun K2 B=>?_;go_simp;refine B _ _ (fun _=>oo) ?_;clear B K2;refine oE 10 rfl fun K2 B=>?_;go_simp;refine B _ _ (fun _=>oo) ?_;clear B K2;refine oE 11 rfl fun K2 B=>?_;go_simp;refine B _ _ (fun q=>absurd rfl q) ?_;clear B K2 oo xm;refine aS (by kernel_rfl) ?_ _;have vi:Mv (fun _=>False) w ρ (S.setCell ⟨C,1,none⟩ (.slice ua un uc)) (jL ρ4 D c):=((T.mv.trans oa (fun _ _ e=>e)).trans (Mv.aa r9) (fun _ _ e=>e)).trans BK (fun _ _ e=>e);generalize S.setCell ⟨C,1,none⟩ (.slice ua un uc)=W8 at *;obtain⟨f8,Hl⟩:=exH (setN (setN N E (z,a.drop 1)) c (z,d++[(k0,v0,c0)]));rw[<-Hl.out]at oe;have Ft:f8.n E=some (z,a.drop 1):=by rw[Hl.out,bD _ _ (Ne.symm yw)];exact tE _ _ _
   have o8:f8.n b=some (2,o):=by rw[Hl.out,bD _ _ o9,bD _ _ Ej];exact V
   obtain⟨q4',junks8,L,-,-,Mt⟩:=oe.ah Ft;rw[show(dQ O c D).φ E=some qs4 from tj]at L;cases L;have ZG:(dQ O c D).α E=some gs:=(aC _ _ (Ne.symm yw)).trans zc;obtain⟨n5,Hn5⟩:∃n5,Hid ((a.drop 1).length=n5):=⟨_,rfl⟩;have CM:0<n5:=by have:=Hn5.out;simp at this;omega
   obtain⟨t1,t2⟩:=Mt.first ZG Hn5.out CM;have ek:ky (a.drop 1) 0=ky a 1:=by unfold ky;rw[aBV]
   simp only[ek]at t2;obtain⟨y,HY⟩:=exH (ky a 1);rw[<-HY.out]at t2;obtain⟨q',R,L,-,-,io⟩:=oe.ah o8;rw[show(dQ O c D).φ b=some q from CY]at L;cases L;have my:(dQ O c D).α b=some g:=(aC _ _ o9).trans LS;rw[my]at io;have AK:m<o.length:=by rw[HM.out.1];exact Q
   have tk:=(bJ (io.arr g rfl).1 (i:=m) (by simp;omega)).1;have tf:=(io.arr g rfl).1.frozen (m*3);have pd:=io.cp (i:=m) (j:=0) (v:=.string y) (e':=(y,(o.getD m e0).2)) AK (by omega) (by simp[aJ]);rw[Nat.add_zero]at pd;obtain⟨q7,Ci⟩:=oe.aw (w':=W8.setCell ⟨g,m*3,none⟩ (.string y)) o8 CY (Frm.set W8 (p:=⟨g,m*3,none⟩) (.inr my) _) (by rw[my];exact pd);have bp:setN f8 b (2,o.set m (y,(o.getD m e0).2))=moveF N b c E z (d++a.take 1) (a.drop 1) (o.set m (ky a 1,(o.getD m e0).2)):=by
    rw[Hl.out,HY.out,aGM _ (Ne.symm yw),aKH (by omega),MA.out];rfl
   rw[bp]at q7;have Dm:JS 12 f J (moveF N b c E z (d++a.take 1) (a.drop 1) (o.set m (ky a 1,(o.getD m e0).2))) J4:=by
    refine(((T.js.trans (JS.setN _ (T.js.b5 c FE))).trans (JS.setN _ By)).trans (JS.setN _ (T.js.b5 b sf))).up (by omega)
   have KI:c<N.c.length:=je.lt c _ H6;have Da:E<N.c.length:=je.lt E _ yz;have Jz:b<N.c.length:=je.lt b _ V;have BW:Sz (K+10) (moveF N b c E z (d++a.take 1) (a.drop 1) (o.set m (ky a 1,(o.getD m e0).2))):=
    ((je.setN KI (by have:=HC.out.2;simp;omega)).setN Da (by simp;omega)).setN Jz (by have:=HM.out.1;simp;omega)
   have HR:=aA (show Dn 12 (fun _=>True) w ρ P A f J (W8.setCell ⟨g,m*3,none⟩ (.string y)) (jL ρ4 D c) (dQ O c D) (moveF N b c E z (d++a.take 1) (a.drop 1) (o.set m (ky a 1,(o.getD m e0).2))) J4/\Sz (K+10) (moveF N b c E z (d++a.take 1) (a.drop 1) (o.set m (ky a 1,(o.getD m e0).2)))from⟨⟨q7,vi.trans Ci (fun _ _ e=>e),Dm,(T.ad.trans (AdS.arr O c D)).up fun _ _=>trivial⟩,BW⟩);clear q7 Ci Dm BW bp pd io Mt oe vi BK lp de oa el pu iq AC T;go_wp2;first | go_end0 | refine bodyPost_ret (results_none rfl _ _ _) rfl ?_
   obtain⟨Bk,AQ⟩:=HR.out;refine⟨fun q=>(by rw[sj.out]at q;cases q),fun g' qh=>?_⟩;rw[sj.out]at qh;cases qh;exact⟨rfl,_,_,J4,Bk,CY.trans hφ.symm,CZ.trans Cz.symm,AQ⟩
 ·have Ah:decide (2<a.length)=false:=by simpa using mq
  have nh:=aA mq;clear mq c1;go_wp2_with fail;refine(gC X (z,a) _ r _ (Fa.below (below_drewN _ _))).mono ?_;rintro e F ⟨rfl,cx⟩;have d5:Bl w F:=by rw[cx];exact below_drewN _ _
  clear cx;have ax:=tu.below d5;have nn:=Fa.below d5;obtain⟨az,has⟩:∃az,az=A.α s:=⟨_,rfl⟩;rw[<-has]at nn;obtain⟨qc',l,L,Dg,yf,vj⟩:=ax.ah hd;rw[Cz]at L;cases L;obtain⟨G,yn⟩:∃G,G=A.α c:=⟨_,rfl⟩;rw[<-yn]at vj;have FL:=aA yn;clear yn has Ah;have I:F.drew.cell? ⟨C,1,none⟩=some (.slice (adr G) d.length (d.length+l.length))/\F.drew.cell? ⟨X,1,none⟩=some (.slice (adr az) a.length (a.length+r.length)):=⟨by show F.cell? _=_;rw[vj.box.cell];rfl,by show F.cell? _=_;rw[nn.box.cell];rfl⟩;go_wp2;refine bA (fun W=>W.cell? ⟨C,1,none⟩=some (.slice (adr G) d.length (d.length+l.length))/\W.cell? ⟨X,1,none⟩=some (.slice (adr az) a.length (a.length+r.length))) 12 (by kernel_rfl) ?_;refine tJ 0 54 (.pointer (some ⟨C,0,none⟩)) rfl I ?_;refine tJ 1 55 (.pointer (some ⟨C,0,none⟩)) rfl I ?_;refine tJ 2 56 (.pointer (some ⟨C,0,none⟩)) rfl I ?_;refine tJ 3 57 (.pointer (some ⟨C,1,none⟩)) rfl I ?_;refine tJ 4 58 (.slice (adr G) d.length (d.length+l.length)) rfl I ?_;refine tJ 5 59 (.pointer (some ⟨X,0,none⟩)) rfl I ?_;refine tJ 6 60 (.pointer (some ⟨X,0,none⟩)) rfl I ?_;refine tJ 7 61 (.pointer (some ⟨X,1,none⟩)) rfl I ?_;refine tJ 8 62 (.slice (adr az) a.length (a.length+r.length)) rfl I ?_;simp only[Act.put,sB,sZ,sS];have vh:Bl F F.drew:=(bQ F.heap.size F).drew;have iq:=vj.below vh;have pw:=nn.below vh;have de:=ax.below vh;have Js:∀x,G=some x->x≠X:=fun x e e'=>by
   have h1:=(iq.arr x e).1;rw[e']at h1;exact IsC.ne h1 pw.box (by decide) rfl
  obtain⟨ua,un,uc,S,sr,el⟩:=rH G d l a (.slice (adr az) a.length (a.length+r.length)) F.drew (fun x e=>(iq.arr x e).1) iq.nil pw.dm (by have:=HC.out.2;omega) iq.small (by omega);refine oE 9 rfl fun K2 B=>?_;refine kM (.tmp 58) (.tmp 62) _ _ (by rfl) (.slice (adr G) d.length (d.length+l.length)) (.slice (adr az) a.length (a.length+r.length)) (by rfl) (by rfl) (.slice ua un uc) S (sr _) ?_;have oo:S.cell? ⟨C,1,none⟩=some (.slice (adr G) d.length (d.length+l.length))/\S.cell? ⟨X,1,none⟩=some (.slice (adr az) a.length (a.length+r.length)):=⟨(dE (el.ae.block C iq.box.lt (fun e=>(iq.arr C e).2 rfl)) 1).trans I.1,(dE (el.ae.block X pw.box.lt (fun e=>Js X e rfl)) 1).trans I.2⟩;obtain⟨D,-,oe,BK,-,xm⟩:=de.ins (w1:=S) (u:=.slice ua un uc) hd Cz (by rw[<-FL.out];exact el);refine B _ _ (fun _=>oo) ?_;clear B K2 I;simp only[Act.put,sB,sZ,sS];refine oE 10 rfl fun K2 B=>?_;go_simp;refine B _ _ (fun _=>oo) ?_;clear B K2;refine oE 11 rfl fun K2 B=>?_;go_simp;refine B _ _ (fun _=>oo) ?_;clear B K2;obtain⟨CS,-⟩:=oo;refine oE 12 rfl fun K2 B=>?_;go_simp;refine B _ _ (fun q=>absurd rfl q) ?_;clear B K2 CS xm;refine aS (by kernel_rfl) ?_ _;have vi:Mv (fun _=>False) w ρ (S.setCell ⟨C,1,none⟩ (.slice ua un uc)) (jL ρ D c):=((Mv.aa d5).trans (Mv.aa vh) (fun _ _ e=>e)).trans BK (fun _ _ e=>e);generalize S.setCell ⟨C,1,none⟩ (.slice ua un uc)=W8 at *;have o8:(setN f c (z,d++a)).n b=some (2,es):=(bD _ _ o9).trans M;obtain⟨q',R,L,-,-,io⟩:=oe.ah o8;rw[show(dQ A c D).φ b=some q from hφ]at L;cases L;have my:(dQ A c D).α b=some g:=(aC _ _ o9).trans hg;rw[my]at io;go_wp2_with fail;refine(gV q g 2 es R m W8 io gd Q).mono ?_;rintro e w9 ⟨rfl,⟨junkb9,DE⟩,xr⟩;obtain⟨k1,v1,GC⟩:∃k1 v1,Hid (es.getD m e0=(k1,v1,(s:Int))):=⟨(es.getD m e0).1,(es.getD m e0).2.1,by show _=_;rw[<-Dj.out]⟩;rw[show aBF (es.getD m e0)=.agg #[.string k1,.string v1,.int .i64 s] by rw[GC.out];rfl];obtain⟨q7,Ci⟩:=oe.aw o8 hφ (xr.wide fun x _ e=>by rcases e with e | e;exact .inl e;right;rw[my,e]) (by rw[my];exact DE);have KQ:(setN (setN f c (z,d++a)) b (2,delE es m)).n s=some (z,a):=((bD _ _ (Ne.symm CC)).trans (bD _ _ (Ne.symm gj))).trans Z;have BW:Sz K (setN (setN f c (z,d++a)) b (2,delE es m)):=(hz.setN KJ (by have:=HC.out.2;have:=nh.out;simp;omega)).setN eX (by have:=bM es m Q;simp only;omega);have KM:cu (setN (setN f c (z,d++a)) b (2,delE es m)) s=cu f s:=rfl;have Dm:JS 0 f J (setN (setN f c (z,d++a)) b (2,delE es m)) J:=(JS.setN _ FE).trans (JS.setN _ sf);clear DE io xr;go_wp2_with fail;refine(oO w9 (jL ρ D c) P (dQ A c D) (setN (setN f c (z,d++a)) b (2,delE es m)) J s (z,a) q7 BW (by omega) (by omega) KQ (by rw[KM];have:=U.ic.a1 Z;omega) (fun x hx=>U.ic.bf Z hx) (aED U.ic Z)).mono ?_;rintro e w10 ⟨rfl,ρ10,J10,DH,EO,EM,FK⟩;have Bf:AdS (fun _=>True) A (if cu (setN (setN f c (z,d++a)) b (2,delE es m)) s=1 then gW (dQ A c D) s else dQ A c D)/\(if cu (setN (setN f c (z,d++a)) b (2,delE es m)) s=1 then gW (dQ A c D) s else dQ A c D).φ b=A.φ b/\(if cu (setN (setN f c (z,d++a)) b (2,delE es m)) s=1 then gW (dQ A c D) s else dQ A c D).φ c=A.φ c:=by
   split
   ·exact⟨((AdS.arr A c D).trans (AdS.del _ s)).up fun _ _=>trivial,aC _ _ CC,aC _ _ gj⟩
   ·exact⟨(AdS.arr A c D).top,rfl,rfl⟩
  generalize (if cu (setN (setN f c (z,d++a)) b (2,delE es m)) s=1 then gW (dQ A c D) s else dQ A c D)=A10 at *;have sj:Hid (fillNext f b i c=some (letGo (setN (setN f c (z,d++a)) b (2,delE es m)) s)):=by
   show fillNext f b i c=_
   rw[HF.out,if_neg nh.out];rfl
  clear HF;have HR:=aA (show Dn 12 (fun _=>True) w ρ P A f J w10 ρ10 A10 (letGo (setN (setN f c (z,d++a)) b (2,delE es m)) s) J10/\Sz (K+10) (letGo (setN (setN f c (z,d++a)) b (2,delE es m)) s)from⟨⟨DH,(vi.trans Ci (fun _ _ e=>e)).trans EO (fun _ _ e=>e),(Dm.trans EM).up (by omega),Bf.1⟩,FK⟩);have HA:=aA Bf.2;clear Bf DH EO EM FK q7 Ci oe BK vi;go_wp2;first | go_end0 | refine bodyPost_ret (results_none rfl _ _ _) rfl ?_
  obtain⟨Bk,AQ⟩:=HR.out;refine⟨fun q=>(by rw[sj.out]at q;cases q),fun g' qh=>?_⟩;rw[sj.out]at qh;cases qh;exact⟨rfl,_,_,J10,Bk,HA.out.1,HA.out.2,AQ⟩
