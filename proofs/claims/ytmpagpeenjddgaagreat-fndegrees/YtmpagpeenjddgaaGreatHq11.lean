import Derived.Test.YtmpagpeenjddgaaGreatHq9
set_option maxHeartbeats 9999999
set_option maxRecDepth 99999
set_option linter.all false
namespace Go.Proofs.YtmpagpeenjddgaaGreat
open Go.RowKit Fo
variable{K:Int}{b c:Nat}
theorem mA{α β:Type}(R:Nat->α->β->Prop):∃m:α->β->Nat,(∀x y h,R h x y->R (m x y) x y)/\∀x y h,R h x y->m x y<=h:=by
 have key:∀x y,∃n,(∀h,R h x y->R n x y)/\∀h,R h x y->n<=h:=fun x y=>by
  by_cases e:∃h,R h x y
  ·obtain⟨h,a⟩:=e
   induction h using Nat.strongRecOn with
   | ind h ih=>
    by_cases e:∃b,b<h/\R b x y
    ·obtain⟨b,d,f⟩:=e;exact ih b d f
    ·exact⟨h,fun _ _=>a,fun b c=>Nat.le_of_not_lt fun g=>e ⟨b,g,c⟩⟩
  ·exact⟨0,fun h a=>absurd ⟨h,a⟩ e,fun h a=>absurd ⟨h,a⟩ e⟩
 refine⟨fun x y=>(key x y).choose,fun x y h a=>(key x y).choose_spec.1 h a,fun x y h a=>(key x y).choose_spec.2 h a⟩
theorem aLH(W:World)(k:ByteArray):(Instr.build 130 #[(0,.string k)]).run Tryz.prog W=.ok (.agg #[.string k,.string .empty,iV 0]) W:=by kernel_rfl
structure PuP(k:Nat)(L:Int)(w:World)(ρ:Nat->Nat)(P:Nat)(A:Adr)(f:fZ)(J:List aS)(r:Option (fZ×Bool))(e:Ending)(w':World):Prop where
 no:r=none->Pk k w ρ P f J e w'
 yes:∀g th,r=some (g,th)->∃ρ' A' J',e=.returned (.bool th)/\Dn k (fun _=>True) w ρ P A f J w' ρ' A' g J'/\Sz L g
structure PuR(w:World)(ρ:Nat->Nat)(P:Nat)(A:Adr)(f:fZ)(J:List aS)(K:Int)(t H:Nat)(key val:ByteArray)(r:Option (fZ×Bool))(h:Nat)(v:Value)(W:World):Prop where
 le:h<=H
 ex:∃q b ρ' A' f' J' Pt lo hi,v=pT q 0/\A'.φ b=some q/\Dn (14+13*(H-h)) (fun _=>True) w ρ P A f J W ρ' A' f' J'/\Sz (K+10+10*((H-h:Nat):Int)) f'/\(∃H',Wk f' t H'/\aO f' t H' Pt b h lo hi)/\loR lo key/\hiR hi key/\sz f'.n b<5/\Tch b J'/\putAt h f' b key val=r
theorem aOJ(w:World)(ρ:Nat->Nat)(P:Nat)(A:Adr)(f:fZ)(J:List aS)(t H:Nat)(key val:ByteArray)(Nb:St w ρ P A f J)(hW:Wk f t H)(hz:Sz K f)(vf:1<=K)(hK:K+10*(H+3)<=700000)(lq:J.length+13*(H+3)<=600000):
  Calls Tryz.prog 81 #[pT P 0,pT A.ra (t*2+1),.agg #[.string key,.string val]] w (PuP (13*(H+3)) (K+10*(H+3)) w ρ P A f J (put f t H key val)):=by
 have IT:=aLH;have lj:=rE;obtain⟨B,HB⟩:=exH (w.heap.size);obtain⟨w0,Q7⟩:=exH (w.alloc (.cells #[.string key,.string val] 121));have dq:Bl w w0:=by rw[Q7.out];exact(bQ w.heap.size w).alloc (nR _) _
 have bd:IsC w0 B #[.string key,.string val] 121:=by rw[Q7.out,HB.out];exact IsC.new _ _ _
 have ug:=Nb.below dq;have QJ:ρ B=0:=Nat.eq_zero_of_not_pos fun q=>by
  obtain⟨_,_,_,hR,_⟩:=id Nb;have:=hR.own B (by omega);rw[HB.out]at this;omega
 have IR:∀k L e w',PuP k L w0 ρ P A f J (put f t H key val) e w'->PuP k L w ρ P A f J (put f t H key val) e w':=fun k L e w' hp=>by
  refine⟨fun q=>?_,fun g th q=>?_⟩
  ·obtain⟨V,ρ',A',g,J',a,b,c⟩:=hp.no q
   exact⟨V,ρ',A',g,J',a,(Mv.aa dq).trans b (fun _ _ e=>e),c⟩
  ·obtain⟨ρ',A',J',a,b,c⟩:=hp.yes g th q
   exact⟨ρ',A',J',a,⟨b.st,(Mv.aa dq).trans b.mv (fun _ _ e=>e),b.js,b.ad⟩,c⟩
 have HP:=aA IR;have hL:dU f (.root t):=hW.tl;have Rd:gY A (.root t) ⟨A.ra,t*2+1,none⟩:=rfl;clear IR;go_enter Tryz.func81,Tryz.ntmps81;go_wp2_with fail;rw[<-Q7.out,<-HB.out];refine(iM w0 ρ P A f J (.root t) ⟨A.ra,t*2+1,none⟩ ug hW.ic hz vf (by omega) (by omega) hL Rd (fun b i e=>by cases e)).mono ?_;intro e w3 hT;cases ak:shadow f (.root t)with
 | none=>
  obtain⟨rfl,ρ3,A3,g3,J3,a1,a2,a3⟩:=hT.no ak;have lp:put f t H key val=none:=by simp only[put,ak]
  exact⟨rfl,HP.out _ _ _ _ ⟨fun _=>⟨rfl,ρ3,A3,g3,J3,a1,a2,a3.up (by omega)⟩,fun g c bu=>by rw[lp]at bu;cases bu⟩⟩
 | some gc=>
  obtain⟨D,r⟩:=gc;obtain⟨ρ3,A3,J3,q3,rfl,Bw,s,C5,xm⟩:=hT.yes D r ak;obtain⟨w1,p1,a1,a2,a3,a4,-,a6⟩:=hW.ak ak;obtain⟨⟨Y,y⟩,S⟩:=w1.ic.live (x:=r) (by rw[a3];omega);have ap:y.length<=5:=by
   obtain⟨d',d1,_,d2,_⟩:=((p1.ok w1.ok).1).ba;rw[S]at d1;cases d1;exact d2
  obtain⟨q3',Q,G,Wl,PG,sx⟩:=s.st.ah S;rw[Bw]at G;cases G;have DJ:A3.ra=A.ra:=s.ad.ra;have HD:Hid (put f t H key val=if y.length=5 then match bO D t r with
   | none=>none
   | some (k,top)=>putAt (H+1) k top key val
   else putAt H D r key val):=by
   show put f t H key val=_
   unfold put;rw[ak];simp only[aF S];rfl
  obtain⟨m,yo,pd⟩:=mA (PuR w0 ρ P A f J K t (H+1) key val (put f t H key val));have Fi:=aA yo;have Fj:=aA pd;have HX:=aA (aI hK lq);clear yo pd hK lq;by_cases pa:y.length=5
  case' pos=>
   have BD:decide (y.length=5)=true:=by simpa using pa
   have H5:=aA pa;clear pa hT ap;go_wp2_with fail;refine(nW q3 (Y,y) _ Q _ sx).mono ?_;rintro e T ⟨rfl,ci⟩;rw[ci];clear ci T;go_wp2_with fail;rw[<-DJ];refine(zH (K:=K+10) w3 ρ3 P A3 D J3 t r Y y s.st w1.ic xm (by omega) (by have:=HX.out;omega) (by have:=s.js.len;have:=HX.out;omega) w1.tl a1 S H5.out C5).mono ?_;intro e T hG;rcases bh:bO D t r with _ | ⟨g2,top⟩
   ·have lp:put f t H key val=none:=by rw[HD.out,if_pos H5.out,bh]
    obtain⟨rfl,ρ4,A4,g4,M,b1,b2,b3⟩:=hG.no bh;exact⟨rfl,HP.out _ _ _ _ ⟨fun _=>⟨rfl,ρ4,A4,g4,M,b1,s.mv.trans b2 (fun _ _ e=>e),(s.js.trans b3).up (by omega)⟩,fun g c bu=>by rw[lp]at bu;cases bu⟩⟩
   obtain⟨ρ4,A4,M,q4,rfl,tz,EX,Rv,jx⟩:=hG.yes g2 top bh;have Rk:∃h0,PuR w0 ρ P A f J K t (H+1) key val (put f t H key val) h0 (pT q4 0) T:=by
    have FG:=bh;unfold bO at bh;rw[aF S]at bh;simp only at bh;by_cases qd:aG D=0
    ·rw[if_pos qd]at bh;cases bh
    ·rw[if_neg qd]at bh
     generalize hT:aG (takeAt (setN D r (Y,y.take 3)) (aG D) (Y,y.drop 3))=tp at *;by_cases ed:tp=0
     ·rw[if_pos ed]at bh;cases bh
     ·rw[if_neg ed]at bh
      simp only[sJ,Prod.mk.injEq]at bh;obtain⟨G,rfl⟩:=bh;obtain⟨l1,l2,l3,l4⟩:=aP qd;obtain⟨m1,m2,m3,m4⟩:=aP (hT▸ed);rw[hT]at m1 m2 m3;have qa:∀x,cu (takeAt (setN D r (Y,y.take 3)) (aG D) (Y,y.drop 3)) x=if aG D=x then 1 else cu D x:=fun x=>dW (f:=setN D r (Y,y.take 3)) (Y,y.drop 3) l2 x;rw[qa]at m3;have uw:tp≠aG D:=fun e=>by rw[if_pos e.symm]at m3;omega
      rw[if_neg (Ne.symm uw)]at m3;have m2':tp<D.c.length:=by simpa [takeAt,setN] using m2
      have h5:=H5.out;rw[<-a1]at a3 S G;obtain⟨w2,p2,b1,b2,b3⟩:=w1.grow a3 S (m:=3) (by omega) (by omega) l1 l2 l3 m1 m2' m3 uw;rw[G]at w2 p2 b3;refine⟨H+1,nR _,q4,tp,ρ4,A4,g2,M,_,_,_,rfl,tz,⟨EX.st,s.mv.trans EX.mv (fun _ _ e=>e),(s.js.trans EX.js).up (by omega),(s.ad.trans EX.ad).up fun _ _=>trivial⟩,jx.up (by omega),⟨_,w2,p2⟩,trivial,trivial,by unfold sz;rw[b3];simp,Rv,?_⟩;rw[HD.out,if_pos H5.out,FG]
   clear s EX hG bh sx S;go_wp2
  case' neg=>
   have BD:decide (y.length=5)=false:=by simpa using pa
   have H5:=aA pa;have GU:=aA ap;clear pa hT ap;go_wp2_with fail;refine(nW q3 (Y,y) _ Q _ sx).mono ?_;rintro e T ⟨rfl,ci⟩;rw[ci];clear ci T;have Rk:∃h0,PuR w0 ρ P A f J K t (H+1) key val (put f t H key val) h0 (pT q3 0) w3:=by
    refine⟨H,Nat.le_succ _,q3,r,ρ3,A3,D,J3,_,_,_,rfl,Bw,⟨s.st,s.mv,s.js.up (by omega),s.ad.top⟩,xm.up (by omega),⟨_,w1,p1⟩,trivial,trivial,?_,C5,?_⟩
    ·unfold sz;rw[S];have:=H5.out;have:=GU.out;simp only;omega
    ·rw[HD.out,if_neg H5.out]
   clear s sx S;go_wp2
  all_goals (
   clear HD H5 DJ;have EH:=Rk;clear Rk;go_loopw [7] (fun v wr=>∃h,PuR w0 ρ P A f J K t (H+1) key val (put f t H key val) h v wr) (fun v wr=>m v wr)
   case atStart=>exact EH
   case round=>
    obtain⟨h',Au⟩:=hrel;have hR:=Fi.out _ _ _ Au;clear Au EH;obtain⟨h,Hh⟩:=exH (m u7 wr);rw[<-Hh.out]at hR;obtain⟨q7,q,b,ρ4,A4,O,M,Pt,lo,hi,rfl,tz,s,jx,⟨H',T,p4⟩,np,AV,h5,Fw,ce⟩:=hR;have ll:IsC wr B #[.string key,.string val] 121:=bd.ae s.mv.ae (fun e=>by rcases e with e | e;exact e QJ;exact e);have oa:=aA q7;clear q7;cases h with
    | succ h=>
     obtain⟨es,af,ur,au⟩:=p4.inner T;obtain⟨q',l,G,yw,yu,X⟩:=s.st.ah af;rw[tz]at G;cases G;have c0:wr.cell? (aD q 0)=some (iV 2):=by rw[X.box.cell];rfl
     have ck:wr.cell? (aD B 0)=some (.string key):=ll.c rfl;go_wp2_with fail;refine(aAQ (K:=K+10+10*((H+1 -(h+1):Nat):Int)) wr ρ4 P A4 O M t H' Pt b h lo hi key q s.st T p4 np h5 tz jx (by omega) (by have:=HX.out;have:=oa.out;omega) (by have:=HX.out;have:=s.js.len;have:=oa.out;omega) Fw).mono ?_;intro e C hS;cases kr:stepDown O b key with
     | none=>
      obtain⟨rfl,ρ5,A5,E,J5,b1,b2,b3⟩:=hS.no kr;have lp:put f t H key val=none:=by rw[<-ce];unfold putAt;rw[kr]
      exact⟨rfl,HP.out _ _ _ _ ⟨fun _=>⟨rfl,ρ5,A5,E,J5,b1,s.mv.trans b2 (fun _ _ e=>e),(s.js.trans b3).up (by have:=oa.out;omega)⟩,fun g c bu=>by rw[lp]at bu;cases bu⟩⟩
     | some gc=>
      obtain⟨E,c5⟩:=gc;obtain⟨ρ5,A5,J5,q5,rfl,QK,nz,Ep,BY⟩:=hS.yes E c5 kr;obtain⟨P',lo',hi',w6,p6,l1,l2,l3,-,-⟩:=T.stepDown p4 np AV h5 kr;have m0:PuR w0 ρ P A f J K t (H+1) key val (put f t H key val) h (pT q5 0) C:=by
       refine⟨by have:=oa.out;omega,q5,c5,ρ5,A5,E,J5,P',lo',hi',rfl,QK,⟨nz.st,s.mv.trans nz.mv (fun _ _ e=>e),(s.js.trans nz.js).up (by have:=oa.out;omega),(s.ad.trans nz.ad).up fun _ _=>trivial⟩,BY.up (by have:=oa.out;omega),⟨_,w6,p6⟩,l1,l2,l3,Ep,?_⟩;rw[<-ce];conv=>rhs;unfold putAt;rw[kr]
      clear hS nz s;go_wp2;go_roundw
      case rel=>exact⟨h,m0⟩
      case measure=>
       have V:=Fj.out _ _ _ m0;have h2:=Hh.out;exact Nat.lt_of_le_of_lt V (by show h<m _ _;rw[<-h2];exact Nat.lt_succ_self h)
    | zero=>
     obtain⟨es,af,ur,zi⟩:=p4.leaf T;obtain⟨q',l,G,yw,yu,X⟩:=s.st.ah af;rw[tz]at G;cases G;have BY:es.length<5:=by unfold sz at h5;rw[af]at h5;exact h5
     have Ir:put f t H key val=some (setN O b (1,putE es key val),fM es key):=by rw[<-ce];unfold putAt;rw[aF af]
     obtain⟨a,ha⟩:∃a,a=A4.α b:=⟨_,rfl⟩;rw[<-ha]at X;have c0:wr.cell? (aD q 0)=some (iV 1):=by rw[X.box.cell];rfl
     have c1:wr.cell? (aD q 1)=some (.slice (adr a) es.length (es.length+l.length)):=by rw[X.box.cell];rfl
     have ck:wr.cell? (aD B 0)=some (.string key):=ll.c rfl;have Gh:NRd wr.drew (.slice (adr a) es.length (es.length+l.length)) es:=X.dp.ep;have Do:=X.box.lt;have yz:=ll.lt;have sa:=aA Ir;have HA:=aA ha;clear ce Ir ha;go_wp2;go_region_held3 (fun w'=>w'.cell? (aD q 1)=some (.slice (adr a) es.length (es.length+l.length))/\w'.cell? (aD B 0)=some (.string key)) (first | go_keep | exact⟨c1,ck⟩ | exact⟨(hB.cell (p:=aD q 1) Do).trans c1,(hB.cell (p:=aD B 0) yz).trans ck⟩) ((go_at_call 101;refine(iG _ es key _ Gh (by omega) ur.a6).mono ?_;rintro e C ⟨dq,he⟩;have F8:e=.returned (.tuple #[iV (cLt es key),.bool (fM es key)]):=he;subst F8;have hB:Bl wr C:=(bQ wr.heap.size wr).drew.trans dq));have cy:=s.st.below hB;have o6:Mv (fun _=>False) w0 ρ C ρ4:=s.mv.trans (Mv.aa hB) (fun _ _ e=>e);have jo:=X.below hB;have tg:IsC C B #[.string key,.string val] 121:=ll.of (hB.block B yz);have ap:=kT es key;obtain⟨i,HI⟩:=exH (cLt es key);rw[<-HI.out]at ap |-;have D5:=s.js;have M2:=s.ad;clear s X c0 c1 ck Gh ll hB;by_cases hk:fM es key=true
     case' pos=>
      have Io:∃ρ9 R I d,St C ρ9 P R I M/\Mv (fun _=>False) w0 ρ C ρ9/\AdS (fun _=>True) A R/\JS (14+13*(H+1-0)) f J I M/\Sz (K+10+10*((H+1-0:Nat):Int)) I/\I.n b=some (1,d)/\R.φ b=some q/\i<d.length/\d.length<=5/\setN I b (1,d.set i ((d.getD i e0).1,val,(d.getD i e0).2.2))=setN O b (1,putE es key val)/\IsC C B #[.string key,.string val] 121:=by
       obtain⟨k1,k2⟩:=(dK es key).1 hk;refine⟨ρ4,A4,O,es,cy,o6,M2,D5,jx,af,tz,by rw[HI.out];exact k1,by omega,?_,tg⟩;unfold putE;rw[if_pos hk,HI.out]
      rw[hk];rw[hk]at sa;clear hk;generalize Iz:C=U at *;go_wp2
     case' neg=>
      have mf:fM es key=false:=by simpa using hk
      rw[mf];have N:(adr a,es.length,C.drew.cell? (aD q 1))=(adr a,es.length,some (.slice (adr a) es.length (es.length+l.length))):=by
       have:C.drew.cell? (aD q 1)=some (.slice (adr a) es.length (es.length+l.length)):=by
        show C.cell? _=_
        rw[jo.box.cell];rfl
       rw[this]
      have vo:C.drew.cell? (aD q 1)=some (.slice (adr a) es.length (es.length+l.length))/\C.drew.cell? (aD B 0)=some (.string key):=by
       refine⟨by show C.cell? _=_;rw[jo.box.cell];rfl,by show C.cell? _=_;rw[tg.cell];rfl⟩
      clear N;have N:=vo;clear vo;go_wp2;refine bB (fun W=>W.cell? (aD q 1)=some (.slice (adr a) es.length (es.length+l.length))/\W.cell? (aD B 0)=some (.string key)) 13 (by kernel_rfl) ?_;refine tJ 0 40 (pT q 0) rfl N ?_;refine tJ 1 41 (pT q 0) rfl N ?_;refine tJ 2 42 (pT q 0) rfl N ?_;refine tJ 3 43 (pT q 1) rfl N ?_;refine tJ 4 44 (.slice (adr a) es.length (es.length+l.length)) rfl N ?_;refine tJ 5 45 (iV i) rfl N ?_;refine tJ 6 46 (pT B 0) rfl N ?_;refine tJ 7 47 (.string key) rfl N ?_;refine tJ 8 48 (.agg #[.string key,.string .empty,iV 0]) rfl N ?_;simp only[Act.put,sB,sZ,sS];refine oE 9 rfl fun K2 z=>?_;go_simp;obtain⟨G6,Aj⟩:=exH (C.heap.size);obtain⟨W6,Am⟩:=exH ((C.alloc (.cells #[.string key,.string .empty,iV 0] 130)).drew);rw[<-Am.out,<-Aj.out];have AP:IsC W6 G6 (cC [(key,.empty,(0:Int))]) 130:=by rw[Am.out,Aj.out];exact(IsC.new C _ _).drew
      have sc:Bl C W6:=by rw[Am.out];exact((bQ C.heap.size C).alloc (nR _) _).drew
      have NG:∀g,a=some g->g≠G6:=fun g e=>by rw[Aj.out];exact Nat.ne_of_lt (jo.arr g e).1.lt
      have pu:=jo.below sc;have ru:IsC W6 B #[.string key,.string val] 121:=tg.of (sc.block B tg.lt);have BS:W6.cell? (aD q 1)=some (.slice (adr a) es.length (es.length+l.length))/\W6.cell? (aD B 0)=some (.string key):=⟨by rw[pu.box.cell];rfl,ru.c rfl⟩;refine z _ _ (fun _=>BS) ?_;clear z K2 N;have lr:=cy.below sc;refine oE 10 rfl fun K2 z=>?_;go_simp;refine(jX a es l [(key,.empty,(0:Int))] (some ⟨G6,0,none⟩) 1 i W6 (fun x e=>(pu.arr x e).1) pu.nil (.inr ⟨G6,0,1,[(key,.empty,(0:Int))],rfl,AP,by simp,by simp⟩) (fun gv o n c e e'=>by cases e;exact NG _ e' rfl) ap (by simp) (by simp;omega) pu.small).mono ?_;rintro e w7 ⟨u,rfl,ep⟩;obtain⟨ua,un,uc,rfl⟩:∃ua un uc,u=.slice ua un uc:=by obtain⟨⟨a',j',e,_⟩,_⟩:=ep;exact⟨_,_,_,e⟩
      have Cx:B≠q:=fun e=>by
       have V:=ru;rw[e]at V;exact IsC.ne V pu.box (by decide) rfl
      have JY:∀g,a=some g->B≠g:=fun g e e'=>by
       have V:=ru;rw[e']at V;exact IsC.ne V (pu.arr g e).1 (by decide) rfl
      have Kb:IsC w7 B #[.string key,.string val] 121:=ru.ae ep.ae (fun e=>JY B e rfl);have pf:w7.cell? (aD q 1)=some (.slice (adr a) es.length (es.length+l.length))/\w7.cell? (aD B 0)=some (.string key):=⟨(dF (ep.ae.block q pu.box.lt (fun e=>(pu.arr q e).2 rfl)) 1).trans BS.1,Kb.c rfl⟩;obtain⟨a',-,o9,Bg,-,ye⟩:=lr.ins (w1:=w7) (u:=.slice ua un uc) af tz (by rw[<-HA.out];exact ep);have LU:es.take i++[(key,.empty,(0:Int))]++es.drop i=insE es i (key,.empty,(0:Int)):=by simp[insE]
      rw[LU]at o9;have d5:b<O.c.length:=jx.lt b _ af;have Io:∃ρ9 R I d,St (w7.setCell (aD q 1) (.slice ua un uc)) ρ9 P R I M/\Mv (fun _=>False) w0 ρ (w7.setCell (aD q 1) (.slice ua un uc)) ρ9/\AdS (fun _=>True) A R/\JS (14+13*(H+1-0)) f J I M/\Sz (K+10+10*((H+1-0:Nat):Int)) I/\I.n b=some (1,d)/\R.φ b=some q/\i<d.length/\d.length<=5/\setN I b (1,d.set i ((d.getD i e0).1,val,(d.getD i e0).2.2))=setN O b (1,putE es key val)/\IsC (w7.setCell (aD q 1) (.slice ua un uc)) B #[.string key,.string val] 121:=by
       have fg:(insE es i (key,.empty,(0:Int))).length=es.length+1:=by simp only[insE,lP,List.length_take,List.length_cons,List.length_drop];omega
       refine⟨_,_,_,insE es i (key,.empty,(0:Int)),o9,(o6.trans (Mv.aa sc) (fun _ _ e=>e)).trans Bg (fun _ _ e=>e),(M2.trans (AdS.arr A4 b a')).up fun _ _=>trivial,D5.trans (JS.setN _ Fw),jx.setN d5 (by simp only;omega),aE _ _ _,tz,by omega,by omega,?_,Kb.set_ne _ Cx⟩;have e9:(insE es i (key,.empty,(0:Int))).getD i e0=(key,.empty,(0:Int)):=by
        rw[jN _ _ _ _ ap,if_neg (by omega),if_pos rfl]
       rw[e9];have e10:(insE es i (key,.empty,(0:Int))).set i (key,val,0)=insE es i (key,val,0):=by
        unfold insE;rw[List.set_append_right _ _ (by simp;omega),List.length_take,show i-min i es.length=0 by omega];rfl
       simp only
       rw[e10];unfold putE;rw[if_neg hk,HI.out];unfold setN;simp only;congr 1;funext x;by_cases ex:x=b<;>simp[upd,ex]
      refine z _ _ (fun _=>pf) ?_;clear z K2 BS o9 Bg lr ep pu AP ru;refine oE 11 rfl fun K2 z=>?_;go_simp;refine z _ _ (fun _=>pf) ?_;clear z K2;refine oE 12 rfl fun K2 z=>?_;go_simp;refine z _ _ (fun _=>pf) ?_;clear z K2;obtain⟨Cn,-⟩:=pf;refine oE 13 rfl fun K2 z=>?_;go_simp;refine z _ _ (fun q=>absurd rfl q) ?_;clear z K2;refine aT (by kernel_rfl) ?_ _;clear Cn Kb ye;rw[mf]at sa;clear hk mf;generalize Iz:w7.setCell (aD q 1) (.slice ua un uc)=U at *;go_wp2
     all_goals (
      obtain⟨ρ9,R,I,d,rh,C2,RC,NJ,Bu,fi,Wo,ZE,P8,bj,Nr⟩:=Io;clear cy o6 jo tg Iz;obtain⟨q',F,G,hρq9,hρa9,Jq⟩:=rh.ah fi;rw[Wo]at G;cases G;obtain⟨E,Ie⟩:=Jq.bf (by simp only;omega);rw[Ie]at Jq;have Fv:=Jq.cp (i:=i) (j:=1) (v:=.string val) (e':=((d.getD i e0).1,val,(d.getD i e0).2.2)) ZE (by omega) (by simp[aK]);obtain⟨Rr,Ft⟩:=rh.aw (w':=U.setCell (aD E (i*3+1)) (.string val)) fi Wo (Frm.set U (p:=aD E (i*3+1)) (.inr Ie) _) (by rw[Ie];exact Fv);rw[bj]at Rr;have SB:b<I.c.length:=Bu.lt b _ fi;have Af:Sz (K+10*(H+3)) (setN O b (1,putE es key val)):=by rw[<-bj];exact(Bu.up (by omega)).setN SB (by simp only[List.length_set];omega)
      have VG:JS (13*(H+3)) f J (setN O b (1,putE es key val)) M:=by rw[<-bj];exact(NJ.trans (JS.setN _ Fw)).up (by omega)
      have HF:=aA (show Dn (13*(H+3)) (fun _=>True) w0 ρ P A f J (U.setCell (aD E (i*3+1)) (.string val)) ρ9 R (setN O b (1,putE es key val)) M/\Sz (K+10*(H+3)) (setN O b (1,putE es key val))from⟨⟨Rr,C2.trans Ft (fun _ _ e=>e),VG,RC⟩,Af⟩);have Z:U.drew.cell? (aD q 1)=some (sL E 0 d.length (d.length+F.length))/\U.drew.cell? (aD B 1)=some (.string val):=⟨by show U.cell? _=_;rw[Jq.box.cell];rfl,by show U.cell? _=_;rw[Nr.cell];rfl⟩;have GE:((i:Nat):Int) <(d.length:Int):=by omega
      obtain⟨xl,K8⟩:(∃v,U.cell? (aD E (i*3+1))=some v)/\U.frozen? (aD E (i*3+1))=false:=⟨⟨_,(bM (Jq.arr E rfl).1 (i:=i) (by simp;omega)).2.1⟩,(Jq.arr E rfl).1.frozen _⟩;obtain⟨ve,xl⟩:=xl;clear Rr Ft Af VG bj Fv rh C2 Jq Nr NJ Bu;refine bB (fun W=>W.cell? (aD q 1)=some (sL E 0 d.length (d.length+F.length))/\W.cell? (aD B 1)=some (.string val)) 9 (by kernel_rfl) ?_;refine tJ 0 53 (pT q 0) rfl Z ?_;refine tJ 1 54 (pT q 0) rfl Z ?_;refine tJ 2 55 (pT q 1) rfl Z ?_;refine tJ 3 56 (sL E 0 d.length (d.length+F.length)) rfl Z ?_;refine tJ 4 57 (iV i) rfl Z ?_;refine tJ 5 58 (pT B 1) rfl Z ?_;refine tJ 6 59 (.string val) rfl Z ?_;simp only[Act.put,sB,sZ,sS];refine oE 7 rfl fun K2 z=>?_;go_simp;refine z _ _ (fun _=>Z) ?_;clear z K2;refine oE 8 rfl fun K2 z=>?_;go_simp;refine z _ _ (fun _=>Z) ?_;clear z K2;refine oE 9 rfl fun K2 z=>?_;go_simp;refine z _ _ (fun q=>absurd rfl q) ?_;clear z K2;refine aT (by kernel_rfl) ?_ _;go_wp2;go_ret;obtain⟨CF,Af⟩:=HF.out;refine HP.out _ _ _ _ ⟨fun q=>(by rw[sa.out]at q;cases q),fun g th hgt=>?_⟩;rw[sa.out]at hgt;cases hgt;exact⟨ρ9,R,M,rfl,CF.below (by first | exact bQ _ _ | exact(bQ _ _).drew),Af⟩))
theorem aGQ(f:fZ)(h:b≠c)(d e:Nd):setN (setN f b d) c e=setN (setN f c e) b d:=by
 have:upd (upd f.n b (some d)) c (some e)=upd (upd f.n c (some e)) b (some d):=funext fun x=>by
  by_cases a:x=b<;>by_cases g:x=c<;>simp[upd,a,g]
  ·exact absurd (a.symm.trans g) h
  ·intro e;exact absurd e h
  ·intro e;exact absurd e.symm h
 unfold setN;simp only;rw[this]
theorem bG(f:fZ){x:Nat}(d:Nd)(h:x≠b):(setN f b d).n x=f.n x:=aC _ _ h
theorem tE(f:fZ)(b:Nat)(d:Nd):(setN f b d).n b=some d:=aE _ _ _
theorem rH(a:Option Nat)(es b vs:List E3)(v:Value)(W:World)(n:∀g,a=some g->IsC W g (cC (es++b)) 130)(hn:a=none->es=[]/\b=[])(p:Esl W v vs)(f:es.length+vs.length<=20)(o:es.length+b.length<=maxLen)(d:0<vs.length):
  ∃ua un uc W',(∀ty,(Builtin.append_ #[94,94] ty #[.slice (adr a) es.length (es.length+b.length),v]).run Tryz.prog W=.ok (.slice ua un uc) W')/\xZ W W' a (.slice ua un uc) (es++vs):=by
 obtain⟨u,W',h,c,i,rfl,j,k,l,m⟩:=yB a es b vs v W n hn p f o;refine⟨_,_,_,W',i,⟨⟨h,c,by simp,j,fun e=>?_,by simpa using l⟩,m⟩⟩;have:=(k e).2.1;rw[this]at d;simp at d
theorem rne(h:b≠c):cK b≠cK c/\cK b≠cI c/\cI b≠cK c/\cI b≠cI c:=by unfold cK cI;omega
theorem aKR{l:List E3}(h:0<l.length):l.take 1=[l.getD 0 e0]:=by
 cases l with
 | nil=>simp at h
 | cons a l=>rfl
theorem aNX(l:List E3):delE l 0=l.drop 1:=by simp[delE]
theorem aDR(W:World)(k v:ByteArray)(c:Int):(Instr.field 130 (.agg #[.string k,.string v,iV c]) 2).run Tryz.prog W=.ok (iV c) W:=by kernel_rfl
theorem aBV(l:List E3)(i:Nat):(l.drop i).getD 0 e0=l.getD i e0:=by simp[gD]
structure FlP(w:World)(ρ:Nat->Nat)(P:Nat)(A:Adr)(f:fZ)(J:List aS)(b c:Nat)(r:Option fZ)(K:Int)(e:Ending)(w':World):Prop where
 no:r=none->Pk 12 w ρ P f J e w'
 yes:∀g,r=some g->e=.returned (.tuple #[])/\∃ρ' A' J',Dn 12 (fun _=>True) w ρ P A f J w' ρ' A' g J'/\A'.φ b=A.φ b/\A'.φ c=A.φ c/\Sz (K+10) g
theorem zE(w:World)(ρ:Nat->Nat)(P:Nat)(A:Adr)(f:fZ)(J:List aS)(t H:Nat)(Pt:List Nat)(b h:Nat)(lo hi:OB)(es:List E3)(i c:Nat)(kk:Int)(d:List E3)(q C:Nat)(ug:St w ρ P A f J)(U:Wk f t H)(hp:aO f t H Pt b (h+1) lo hi)(M:f.n b=some (2,es))(hi':i+1<es.length)(hc:c=kd es i)(hd:f.n c=some (kk,d))(cc:cu f c=1)(ap:d.length=2)(hφ:A.φ b=some q)(DL:A.φ c=some C)(hz:Sz K f)(vf:1<=K)(hK:K<=700000)(lq:J.length<=600000)(sm:Tch b J)(Fb:Tch c J):
  Calls Tryz.prog 125 #[pT P 0,pT q 0,iV i,pT C 0] w (FlP w ρ P A f J b c (fillNext f b i c) K):=by
 have lj:=rE;have K8:=aDR;obtain⟨m,ue⟩:=exH (i+1);have gh:=hz.ai b _ M;simp only at gh;have Q:m<es.length:=by rw[ue.out];exact hi'
 obtain⟨s,Hs⟩:=exH (kd es m);have qi:s∈kids (2,es):=by rw[Hs.out];exact aR Q
 have eS:c∈kids (2,es):=by rw[hc];exact aR (by omega)
 obtain⟨⟨z,a⟩,Z⟩:=U.ic.af M qi;obtain⟨es0,q1,e2,e3,e4,e5⟩:=(hp.ok U.ok).1;rw[M]at q1;cases q1;have mz:z=kk:=by
  have CM:=(dO (hc▸hd)).1 (e5 i (by omega)).2;have Bh:=(dO (Hs.out▸Z)).1 (e5 m Q).2;cases h with
  | zero=>have a1:=CM.1;have a2:=Bh.1;simp only at a1 a2;omega
  | succ h=>have a1:=CM.1;have a2:=Bh.1;simp only at a1 a2;omega
 subst mz;have ju:2<=a.length:=by have:=(e5 m Q).1;unfold sz at this;rw[<-Hs.out,Z]at this;exact this
 have ry:=hz.ai s _ Z;simp only at ry;have fw:c≠s:=fun e=>by
  rw[hc,Hs.out]at e;have:=eA (U.ic.only (hc▸cc) M (hc▸eS)).2.1 (by omega) Q e.symm;have:=ue.out;omega
 have CU:b≠s:=fun e=>U.ic.ag M (e▸qi);have mo:b≠c:=fun e=>U.ic.ag M (e▸eS);have d5:b<f.c.length:=hz.lt b _ M;have Kk:c<f.c.length:=hz.lt c _ hd;have ef:s<f.c.length:=hz.lt s _ Z;have CX:(es.getD m e0).2.2=(s:Int):=by
  have h1:=U.ic.ar M Q;rw[Hs.out];unfold kd ch;omega
 obtain⟨q',junk,L,yw,yu,hN⟩:=ug.ah M;rw[hφ]at L;cases L;obtain⟨g,hg⟩:=hN.bf (by simp only;omega);rw[hg]at hN;obtain⟨X,r,UB,T9,PH,Fv⟩:=ug.ah Z;obtain⟨ja,jp,jj,hR,hJ⟩:=id ug;have m3:=hR.cells.m3;have c1:w.cell? (aD q 1)=some (sL g 0 es.length (es.length+junk.length)):=by rw[hN.box.cell];rfl
 have c2:w.cell? (aD g (m*3+2))=some (iV s):=by
  have:=(bM (hN.arr g rfl).1 (i:=m) (by simp;omega)).2.2
  rw[gD,List.getElem?_append_left Q,<-gD]at this;rw[CX]at this;exact this
 have ig:∀n,(Instr.lookup 64 (.map (some A.m)) (iV s) false).run Tryz.prog (w.drewN n)=.ok (pT X 0) (w.drewN n):=fun n=>by
  have:=(hR.hm.of (w':=w.drewN n) rfl).lookup s (by have:=hz.al;omega)
  rw[UB]at this;simpa only[fB,Option.map_some] using this
 have yt:IntKind.i64.wrap ((i:Int)+1)=(m:Int):=by
  have:=ue.out
  rw[IntWalk.i64_in _ ⟨by omega,by omega⟩];omega
 have GE:((m:Nat):Int) <(es.length:Int):=by omega
 have HF:Hid (fillNext f b i c=if 2<a.length then
   match shadow f (.ai b m)with
   | none=>none
   | some (k,s)=>some (moveF k b c s (Fo.look k c).1 ((Fo.look k c).2++(Fo.look k s).2.take 1) ((Fo.look k s).2.drop 1) ((Fo.look k b).2.set m (ky (Fo.look k s).2 1,((Fo.look k b).2.getD m e0).2)))
  else some (mergeF f b c s z (d++a) (delE es m))):=by
  show fillNext f b i c=_
  unfold fillNext;rw[aF M];simp only;rw[<-ue.out,<-Hs.out,aF Z,aF hd];rfl
 have HC:=aA (aI hc ap);have Dz:=aA CX;clear hc ap CX;go_enter Tryz.func125,Tryz.ntmps125;go_wp2;go_quiet (fail);clear ig c2 m3;by_cases my:2<a.length
 ·have BD:decide (2<a.length)=true:=by simpa using my
  have nw:=aA my;clear my c1;go_wp2_with fail;refine(gA X (z,a) _ r _ (Fv.below (below_drewN _ _))).mono ?_;rintro e F ⟨rfl,ci⟩;rw[ci];clear ci F;have CK:dU f (.ai b m):=⟨d5,es,M,Q⟩;have CJ:gY A (.ai b m) ⟨g,m*3+2,none⟩:=⟨g,hg,rfl⟩;go_wp2_with fail;refine(iM _ ρ P A f J (.ai b m) ⟨g,m*3+2,none⟩ (ug.below (below_drewN _ _)) U.ic hz vf (by omega) (by omega) CK CJ (fun b' i' e=>by cases e;exact sm)).mono ?_;intro e F hT;cases ak:shadow f (.ai b m)with
  | none=>
   obtain⟨rfl,ρ4,O,g4,J4,a1,a2,a3⟩:=hT.no ak;have lp:fillNext f b i c=none:=by rw[HF.out,if_pos nw.out,ak]
   exact⟨rfl,fun _=>⟨rfl,ρ4,O,g4,J4,a1,(Mv.aa (below_drewN _ _)).trans a2 (fun _ _ e=>e),a3.up (by omega)⟩,fun g bu=>by rw[lp]at bu;cases bu⟩
  | some gc=>
   obtain⟨N,E⟩:=gc;obtain⟨ρ4,O,J4,qs4,rfl,tz,cn,CP,jx⟩:=hT.yes N E ak;have T:Dn 12 (fun x=>x=E\/x=bN f (.ai b m)) w ρ P A f J F ρ4 O N J4:=⟨cn.st,(Mv.aa (below_drewN _ _)).trans cn.mv (fun _ _ e=>e),cn.js,cn.ad⟩;clear cn hT;obtain⟨w2,p2,p3,⟨o,V,m2,m3,m4⟩,m5,m6,m7,m8,m9⟩:=U.aj hp M Q ak;obtain⟨s1,s2,s3⟩:=U.bj hp M Q ak;rw[<-Hs.out]at m5 s1 s2;obtain⟨x1,x2,x3⟩:=s2 _ eS fw;have IY:N.n c=some (z,d):=by rw[x1];exact hd
   have zo:N.n E=some (z,a):=by rw[m5];exact Z
   have Lj:E∈kids (2,o):=by rw[<-m4];exact aR (by rw[m2];exact Q)
   have E0:b≠E:=fun e=>w2.ic.ag V (e▸Lj);have me:kd o i=c:=by rw[HC.out.1];unfold kd;rw[(s3 o V i).2 (by have:=ue.out;omega)]
   have zh:c≠E:=fun e=>by
    rw[<-me,<-m4]at e;have Ki:kd o i∈kids (2,o):=aR (by rw[m2];omega);have:=eA (w2.ic.only (by rw[me,x2];exact cc) V Ki).2.1 (by rw[m2];omega) (by rw[m2];exact Q) e.symm;have:=ue.out;omega
   have Bm:bN f (.ai b m)=s:=by simp only[bN,aF M];exact Hs.out.symm
   have Nj:¬(b=E\/b=bN f (.ai b m)):=fun e=>by rw[Bm]at e;rcases e with e | e;exact E0 e;exact CU e
   have R3:¬(c=E\/c=bN f (.ai b m)):=fun e=>by rw[Bm]at e;rcases e with e | e;exact zh e;exact fw e
   have Ct:O.φ b=some q:=by rw[T.ad.φ b Nj];exact hφ
   have Ls:O.α b=some g:=by rw[T.ad.α b Nj];exact hg
   have Cu:O.φ c=some C:=by rw[T.ad.φ c R3];exact DL
   have sq:Hid (fillNext f b i c=some (moveF N b c E z (d++a.take 1) (a.drop 1) (o.set m (ky a 1,(o.getD m e0).2)))):=by
    show fillNext f b i c=_
    rw[HF.out,if_pos nw.out,ak];simp only[aF IY,aF zo,aF V]
   clear HF;obtain⟨q4',junks4,L,PI,I9,od⟩:=T.st.ah zo;rw[tz]at L;cases L;obtain⟨gs,zy⟩:=od.bf (by simp only;omega);rw[zy]at od;obtain⟨qc',l,L,Dw,yv,wd⟩:=T.st.ah IY;rw[Cu]at L;cases L;obtain⟨G,y8⟩:∃G,G=O.α c:=⟨_,rfl⟩;rw[<-y8]at wd;have Fh:=aA y8;clear y8;have I:F.drew.cell? (aD C 1)=some (.slice (adr G) d.length (d.length+l.length)):=by show F.cell? _=_;rw[wd.box.cell];rfl
   have HM:=aA (aI m2 (aI m5 (aI m6 m7)));clear m2 m5 m6 m7 BD;go_wp2;refine bB (fun W=>W.cell? (aD C 1)=some (.slice (adr G) d.length (d.length+l.length))) 11 (by kernel_rfl) ?_;refine tJ 0 33 (pT C 0) rfl I ?_ (fun w' Y=>by obtain V:=Y;go_simp;try rfl);refine tJ 1 34 (pT C 0) rfl I ?_ (fun w' Y=>by obtain V:=Y;go_simp;try rfl);refine tJ 2 35 (pT C 0) rfl I ?_ (fun w' Y=>by obtain V:=Y;go_simp;try rfl);refine tJ 3 36 (pT C 1) rfl I ?_ (fun w' Y=>by obtain V:=Y;go_simp;try rfl);refine tJ 4 37 (.slice (adr G) d.length (d.length+l.length)) rfl I ?_ (fun w' Y=>by obtain V:=Y;go_simp;try rfl);refine tJ 5 38 (pT qs4 0) rfl I ?_ (fun w' Y=>by obtain V:=Y;go_simp;try rfl);simp only[Act.put,sB,sZ,sS];have pr:Bl F F.drew:=(bQ F.heap.size F).drew;refine oE 6 rfl fun K2 B=>?_;go_simp;refine(gT qs4 gs z a junks4 0 F.drew (od.below pr) ry (by omega)).mono ?_;rintro e w5 ⟨rfl,⟨junks5,qp⟩,ez⟩;have Ga:Frm (fun x=>x=qs4\/O.α E=some x) F w5:=(Frm.aa pr).trans (ez.wide fun x _ e=>by rcases e with e | e;exact .inl e;right;rw[zy,e]);rw[aNX]at qp;obtain⟨cy,o6⟩:=T.st.aw zo tz Ga (by rw[zy];exact qp);obtain⟨r1,r2,r3,r4⟩:=rne zh;have NW:∀x,x=qs4\/x=gs->ρ4 x=cK E\/ρ4 x=cI E:=fun x e=>by
    rcases e with e | e<;>rw[e]
    ·exact .inl PI
    ·exact .inr (I9 gs zy)
   have iz:aN w5 C (z,d) G l:=(wd.below pr).ae ez (fun e=>by
     rcases NW C e with e | e
     ·exact r1 (Dw.symm.trans e)
     ·exact r2 (Dw.symm.trans e)) (fun x hx e=>by
     have br:=yv x (by rw[<-Fh.out];exact hx);rcases NW x e with e | e
     ·exact r3 (br.symm.trans e)
     ·exact r4 (br.symm.trans e))
   have qg:w5.cell? (aD C 1)=some (.slice (adr G) d.length (d.length+l.length)):=by rw[iz.box.cell];rfl
   obtain⟨k0,v0,c0,H3⟩:∃k0 v0 c0,Hid (a.getD 0 e0=(k0,v0,c0)):=⟨_,_,_,rfl⟩;rw[show aBG (a.getD 0 e0)=.agg #[.string k0,.string v0,iV c0] by rw[H3.out];rfl];refine B _ _ (fun _=>qg) ?_;clear B K2 I;refine oE 7 rfl fun K2 B=>?_;go_simp;obtain⟨G6,Aj⟩:=exH (w5.heap.size);obtain⟨W6,Am⟩:=exH (w5.alloc (.cells #[.string k0,.string v0,iV c0] 130));rw[<-Am.out,<-Aj.out];have AP:IsC W6 G6 (cC [(k0,v0,c0)]) 130:=by rw[Am.out,Aj.out];exact IsC.new _ _ _
   have sc:Bl w5 W6:=by rw[Am.out];exact(bQ w5.heap.size w5).alloc (nR _) _
   have qo:=iz.below sc;have BS:W6.cell? (aD C 1)=some (.slice (adr G) d.length (d.length+l.length)):=by rw[qo.box.cell];rfl
   refine B _ _ (fun _=>BS) ?_;clear B K2 qg;have lr:=cy.below sc;obtain⟨ua,un,uc,S,td,ep⟩:=rH G d l [(k0,v0,c0)] (sL G6 0 1 1) W6 (fun x e=>(qo.arr x e).1) qo.nil (.inr ⟨G6,0,1,[(k0,v0,c0)],rfl,AP,by simp,by simp⟩) (by have:=HC.out.2;simp;omega) qo.small (by simp);refine oE 8 rfl fun K2 B=>?_;refine kJ (.tmp 37) (.tmp 40) _ _ (by rfl) (.slice (adr G) d.length (d.length+l.length)) (sL G6 0 1 1) (by rfl) (by rfl) (.slice ua un uc) S (td _) ?_;have pf:S.cell? (aD C 1)=some (.slice (adr G) d.length (d.length+l.length)):=(dF (ep.ae.block C qo.box.lt (fun e=>(qo.arr C e).2 rfl)) 1).trans BS;have Gy:(setN N E (z,a.drop 1)).n c=some (z,d):=(bG _ _ zh).trans IY;obtain⟨D,-,o9,Bg,-,ye⟩:=lr.ins (w1:=S) (u:=.slice ua un uc) Gy Cu (by rw[<-Fh.out];exact ep);refine B _ _ (fun _=>pf) ?_;clear B K2 BS;simp only[Act.put,sB,sZ,sS];refine oE 9 rfl fun K2 B=>?_;go_simp;refine B _ _ (fun _=>pf) ?_;clear B K2;refine oE 10 rfl fun K2 B=>?_;go_simp;refine B _ _ (fun _=>pf) ?_;clear B K2;refine oE 11 rfl fun K2 B=>?_;go_simp;refine B _ _ (fun q=>absurd rfl q) ?_;clear B K2 pf ye;refine aT (by kernel_rfl) ?_ _;have vy:Mv (fun _=>False) w ρ (S.setCell (aD C 1) (.slice ua un uc)) (jI ρ4 D c):=((T.mv.trans o6 (fun _ _ e=>e)).trans (Mv.aa sc) (fun _ _ e=>e)).trans Bg (fun _ _ e=>e);generalize S.setCell (aD C 1) (.slice ua un uc)=W8 at *;obtain⟨f8,ID⟩:=exH (setN (setN N E (z,a.drop 1)) c (z,d++[(k0,v0,c0)]));rw[<-ID.out]at o9;have Dp:f8.n E=some (z,a.drop 1):=by rw[ID.out,bG _ _ (Ne.symm zh)];exact tE _ _ _
   have sf:f8.n b=some (2,o):=by rw[ID.out,bG _ _ mo,bG _ _ E0];exact V
   obtain⟨q4',junks8,L,-,-,NP⟩:=o9.ah Dp;rw[show(dR O c D).φ E=some qs4 from tz]at L;cases L;have hα8:(dR O c D).α E=some gs:=(aC _ _ (Ne.symm zh)).trans zy;obtain⟨n5,Hn5⟩:∃n5,Hid ((a.drop 1).length=n5):=⟨_,rfl⟩;have Cg:0<n5:=by have:=Hn5.out;simp at this;omega
   obtain⟨t1,t2⟩:=NP.first hα8 Hn5.out Cg;have ek:ky (a.drop 1) 0=ky a 1:=by unfold ky;rw[aBV]
   simp only[ek]at t2;obtain⟨y,HY⟩:=exH (ky a 1);rw[<-HY.out]at t2;obtain⟨q',R,L,-,-,iy⟩:=o9.ah sf;rw[show(dR O c D).φ b=some q from Ct]at L;cases L;have nh:(dR O c D).α b=some g:=(aC _ _ mo).trans Ls;rw[nh]at iy;have AW:m<o.length:=by rw[HM.out.1];exact Q
   have tk:=(bM (iy.arr g rfl).1 (i:=m) (by simp;omega)).1;have tf:=(iy.arr g rfl).1.frozen (m*3);have pz:=iy.cp (i:=m) (j:=0) (v:=.string y) (e':=(y,(o.getD m e0).2)) AW (by omega) (by simp[aK]);rw[Nat.add_zero]at pz;obtain⟨rh,C2⟩:=o9.aw (w':=W8.setCell (aD g (m*3)) (.string y)) sf Ct (Frm.set W8 (p:=aD g (m*3)) (.inr nh) _) (by rw[nh];exact pz);have bj:setN f8 b (2,o.set m (y,(o.getD m e0).2))=moveF N b c E z (d++a.take 1) (a.drop 1) (o.set m (ky a 1,(o.getD m e0).2)):=by
    rw[ID.out,HY.out,aGQ _ (Ne.symm zh),aKR (by omega),H3.out];rfl
   rw[bj]at rh;have D5:JS 12 f J (moveF N b c E z (d++a.take 1) (a.drop 1) (o.set m (ky a 1,(o.getD m e0).2))) J4:=by
    refine(((T.js.trans (JS.setN _ (T.js.b5 c Fb))).trans (JS.setN _ CP)).trans (JS.setN _ (T.js.b5 b sm))).up (by omega)
   have Kj:c<N.c.length:=jx.lt c _ IY;have Dq:E<N.c.length:=jx.lt E _ zo;have KW:b<N.c.length:=jx.lt b _ V;have Bu:Sz (K+10) (moveF N b c E z (d++a.take 1) (a.drop 1) (o.set m (ky a 1,(o.getD m e0).2))):=
    ((jx.setN Kj (by have:=HC.out.2;simp;omega)).setN Dq (by simp;omega)).setN KW (by have:=HM.out.1;simp;omega)
   have HR:=aA (show Dn 12 (fun _=>True) w ρ P A f J (W8.setCell (aD g (m*3)) (.string y)) (jI ρ4 D c) (dR O c D) (moveF N b c E z (d++a.take 1) (a.drop 1) (o.set m (ky a 1,(o.getD m e0).2))) J4/\Sz (K+10) (moveF N b c E z (d++a.take 1) (a.drop 1) (o.set m (ky a 1,(o.getD m e0).2)))from⟨⟨rh,vy.trans C2 (fun _ _ e=>e),D5,(T.ad.trans (AdS.arr O c D)).up fun _ _=>trivial⟩,Bu⟩);clear rh C2 D5 Bu bj pz iy NP o9 vy Bg lr cy o6 ep qo iz AP T;go_wp2;first | go_end0 | refine bodyPost_ret (results_none rfl _ _ _) rfl ?_
   obtain⟨CF,Af⟩:=HR.out;refine⟨fun q=>(by rw[sq.out]at q;cases q),fun g' ti=>?_⟩;rw[sq.out]at ti;cases ti;exact⟨rfl,_,_,J4,CF,Ct.trans hφ.symm,Cu.trans DL.symm,Af⟩
 ·have BD:decide (2<a.length)=false:=by simpa using my
  have nw:=aA my;clear my c1;go_wp2_with fail;refine(gA X (z,a) _ r _ (Fv.below (below_drewN _ _))).mono ?_;rintro e F ⟨rfl,ci⟩;have du:Bl w F:=by rw[ci];exact below_drewN _ _
  clear ci;have av:=ug.below du;have od:=Fv.below du;obtain⟨az,has⟩:∃az,az=A.α s:=⟨_,rfl⟩;rw[<-has]at od;obtain⟨qc',l,L,Dw,yv,wd⟩:=av.ah hd;rw[DL]at L;cases L;obtain⟨G,y8⟩:∃G,G=A.α c:=⟨_,rfl⟩;rw[<-y8]at wd;have Fh:=aA y8;clear y8 has BD;have I:F.drew.cell? (aD C 1)=some (.slice (adr G) d.length (d.length+l.length))/\F.drew.cell? (aD X 1)=some (.slice (adr az) a.length (a.length+r.length)):=⟨by show F.cell? _=_;rw[wd.box.cell];rfl,by show F.cell? _=_;rw[od.box.cell];rfl⟩;go_wp2;refine bB (fun W=>W.cell? (aD C 1)=some (.slice (adr G) d.length (d.length+l.length))/\W.cell? (aD X 1)=some (.slice (adr az) a.length (a.length+r.length))) 12 (by kernel_rfl) ?_;refine tJ 0 54 (pT C 0) rfl I ?_;refine tJ 1 55 (pT C 0) rfl I ?_;refine tJ 2 56 (pT C 0) rfl I ?_;refine tJ 3 57 (pT C 1) rfl I ?_;refine tJ 4 58 (.slice (adr G) d.length (d.length+l.length)) rfl I ?_;refine tJ 5 59 (pT X 0) rfl I ?_;refine tJ 6 60 (pT X 0) rfl I ?_;refine tJ 7 61 (pT X 1) rfl I ?_;refine tJ 8 62 (.slice (adr az) a.length (a.length+r.length)) rfl I ?_;simp only[Act.put,sB,sZ,sS];have pr:Bl F F.drew:=(bQ F.heap.size F).drew;have iz:=wd.below pr;have qp:=od.below pr;have cy:=av.below pr;have KP:∀x,G=some x->x≠X:=fun x e e'=>by
   have h1:=(iz.arr x e).1;rw[e']at h1;exact IsC.ne h1 qp.box (by decide) rfl
  obtain⟨ua,un,uc,S,td,ep⟩:=rH G d l a (.slice (adr az) a.length (a.length+r.length)) F.drew (fun x e=>(iz.arr x e).1) iz.nil qp.dp (by have:=HC.out.2;omega) iz.small (by omega);refine oE 9 rfl fun K2 B=>?_;refine kJ (.tmp 58) (.tmp 62) _ _ (by rfl) (.slice (adr G) d.length (d.length+l.length)) (.slice (adr az) a.length (a.length+r.length)) (by rfl) (by rfl) (.slice ua un uc) S (td _) ?_;have pf:S.cell? (aD C 1)=some (.slice (adr G) d.length (d.length+l.length))/\S.cell? (aD X 1)=some (.slice (adr az) a.length (a.length+r.length)):=⟨(dF (ep.ae.block C iz.box.lt (fun e=>(iz.arr C e).2 rfl)) 1).trans I.1,(dF (ep.ae.block X qp.box.lt (fun e=>KP X e rfl)) 1).trans I.2⟩;obtain⟨D,-,o9,Bg,-,ye⟩:=cy.ins (w1:=S) (u:=.slice ua un uc) hd DL (by rw[<-Fh.out];exact ep);refine B _ _ (fun _=>pf) ?_;clear B K2 I;simp only[Act.put,sB,sZ,sS];refine oE 10 rfl fun K2 B=>?_;go_simp;refine B _ _ (fun _=>pf) ?_;clear B K2;refine oE 11 rfl fun K2 B=>?_;go_simp;refine B _ _ (fun _=>pf) ?_;clear B K2;obtain⟨Cn,-⟩:=pf;refine oE 12 rfl fun K2 B=>?_;go_simp;refine B _ _ (fun q=>absurd rfl q) ?_;clear B K2 Cn ye;refine aT (by kernel_rfl) ?_ _;have vy:Mv (fun _=>False) w ρ (S.setCell (aD C 1) (.slice ua un uc)) (jI ρ D c):=((Mv.aa du).trans (Mv.aa pr) (fun _ _ e=>e)).trans Bg (fun _ _ e=>e);generalize S.setCell (aD C 1) (.slice ua un uc)=W8 at *;have sf:(setN f c (z,d++a)).n b=some (2,es):=(bG _ _ mo).trans M;obtain⟨q',R,L,-,-,iy⟩:=o9.ah sf;rw[show(dR A c D).φ b=some q from hφ]at L;cases L;have nh:(dR A c D).α b=some g:=(aC _ _ mo).trans hg;rw[nh]at iy;go_wp2_with fail;refine(gT q g 2 es R m W8 iy gh Q).mono ?_;rintro e w9 ⟨rfl,⟨junkb9,DW⟩,yl⟩;obtain⟨k1,v1,GV⟩:∃k1 v1,Hid (es.getD m e0=(k1,v1,(s:Int))):=⟨(es.getD m e0).1,(es.getD m e0).2.1,by show _=_;rw[<-Dz.out]⟩;rw[show aBG (es.getD m e0)=.agg #[.string k1,.string v1,iV s] by rw[GV.out];rfl];obtain⟨rh,C2⟩:=o9.aw sf hφ (yl.wide fun x _ e=>by rcases e with e | e;exact .inl e;right;rw[nh,e]) (by rw[nh];exact DW);have Kr:(setN (setN f c (z,d++a)) b (2,delE es m)).n s=some (z,a):=((bG _ _ (Ne.symm CU)).trans (bG _ _ (Ne.symm fw))).trans Z;have Bu:Sz K (setN (setN f c (z,d++a)) b (2,delE es m)):=(hz.setN Kk (by have:=HC.out.2;have:=nw.out;simp;omega)).setN d5 (by have:=bU es m Q;simp only;omega);have Kn:cu (setN (setN f c (z,d++a)) b (2,delE es m)) s=cu f s:=rfl;have D5:JS 0 f J (setN (setN f c (z,d++a)) b (2,delE es m)) J:=(JS.setN _ Fb).trans (JS.setN _ sm);clear DW iy yl;go_wp2_with fail;refine(oN w9 (jI ρ D c) P (dR A c D) (setN (setN f c (z,d++a)) b (2,delE es m)) J s (z,a) rh Bu (by omega) (by omega) Kr (by rw[Kn];have:=U.ic.a7 Z;omega) (fun x hx=>U.ic.bg Z hx) (aEF U.ic Z)).mono ?_;rintro e w10 ⟨rfl,ρ10,J10,DY,Ee,Eb,Fg⟩;have CA:AdS (fun _=>True) A (if cu (setN (setN f c (z,d++a)) b (2,delE es m)) s=1 then gU (dR A c D) s else dR A c D)/\(if cu (setN (setN f c (z,d++a)) b (2,delE es m)) s=1 then gU (dR A c D) s else dR A c D).φ b=A.φ b/\(if cu (setN (setN f c (z,d++a)) b (2,delE es m)) s=1 then gU (dR A c D) s else dR A c D).φ c=A.φ c:=by
   split
   ·exact⟨((AdS.arr A c D).trans (AdS.del _ s)).up fun _ _=>trivial,aC _ _ CU,aC _ _ fw⟩
   ·exact⟨(AdS.arr A c D).top,rfl,rfl⟩
  generalize (if cu (setN (setN f c (z,d++a)) b (2,delE es m)) s=1 then gU (dR A c D) s else dR A c D)=A10 at *;have sq:Hid (fillNext f b i c=some (letGo (setN (setN f c (z,d++a)) b (2,delE es m)) s)):=by
   show fillNext f b i c=_
   rw[HF.out,if_neg nw.out];rfl
  clear HF;have HR:=aA (show Dn 12 (fun _=>True) w ρ P A f J w10 ρ10 A10 (letGo (setN (setN f c (z,d++a)) b (2,delE es m)) s) J10/\Sz (K+10) (letGo (setN (setN f c (z,d++a)) b (2,delE es m)) s)from⟨⟨DY,(vy.trans C2 (fun _ _ e=>e)).trans Ee (fun _ _ e=>e),(D5.trans Eb).up (by omega),CA.1⟩,Fg⟩);have HA:=aA CA.2;clear CA DY Ee Eb Fg rh C2 o9 Bg vy;go_wp2;first | go_end0 | refine bodyPost_ret (results_none rfl _ _ _) rfl ?_
  obtain⟨CF,Af⟩:=HR.out;refine⟨fun q=>(by rw[sq.out]at q;cases q),fun g' ti=>?_⟩;rw[sq.out]at ti;cases ti;exact⟨rfl,_,_,J10,CF,HA.out.1,HA.out.2,Af⟩
