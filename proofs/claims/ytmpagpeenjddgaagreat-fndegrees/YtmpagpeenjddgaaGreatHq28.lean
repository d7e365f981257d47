import Derived.Defers
import Derived.Recover
import Derived.Test.YtmpagpeenjddgaaGreatHq21
set_option maxHeartbeats 9999999
set_option maxRecDepth 99999
set_option linter.all false
namespace Go.Proofs.YtmpagpeenjddgaaGreat
open Go.RowKit Go.Shelf Fo
attribute [local go_sem] Oper.semAt_some
section
variable {w w' : World} {ρ : Nat -> Nat} {P : Nat} {A : Adr} {g : fZ} {ja : Option Nat} {jp jj : List JE} {J : List aS}
theorem xJ{k r:Nat}(h:isN r):¬isK k r:=fun e=>h.2 (aPF e)
theorem St.eg{k:Nat}(h:St w ρ P A g fT)(d:JrK w ρ ja jp jj J k){b:Nat}(f:b<g.c.length)(v:Int):St (w.setCell (aD A.c b) (iV v)) ρ P A (Fo.setC g b v) fT/\JrK (w.setCell (aD A.c b) (iV v)) ρ ja jp jj J k:=by
 have c:ρ A.c=4/\∀x,ρ x≠0->x<w.heap.size:=by obtain⟨_,_,_,a,_⟩:=h;exact⟨a.rc,a.own⟩
 exact⟨(h.setC f v).1,d.ae (S:=fun x=>x=A.c) (nR _) (Frm.set (S:=fun x=>x=A.c) w (p:=aD A.c b) rfl _) c.2 (fun x e=>by rw[e,c.1];exact xJ aDZ) (fun _ _=>rfl)⟩
theorem St.eh{i:Nat}(h:St w ρ P A g fT)(d:JrK w ρ ja jp jj J (i+1)){b:Nat}(f:dV w' A.m (upd A.φ b none))(hF:Frm (fun x=>x=A.m) w w'):St w' ρ P (gU A b) (noN g b) fT/\JrK w' ρ ja jp jj J i:=by
 have c:ρ A.m=3/\∀x,ρ x≠0->x<w.heap.size:=by obtain⟨_,_,_,a,_⟩:=h;exact⟨a.rm,a.own⟩
 exact⟨(h.del f hF).1,d.ae (Nat.le_succ _) hF c.2 (fun x e=>by rw[e,c.1];exact xJ vM) (fun _ _=>rfl)⟩
theorem St.ei{i:Nat}(h:St w ρ P A g fT)(p:JrK w ρ ja jp jj J (i+1)){b q:Nat}{d:Nd}{a:Option Nat}{junk:List E3}(m:ρ q=jZ i)(l:∀x,a=some x->ρ x=kC i)(s:aN w q d a junk)(r:dV w' A.m (upd A.φ b (some q)))(hF:Frm (fun x=>x=A.m) w w'):
  ∃ρ',St w' ρ' P (dB A b q a) (setN g b d) fT/\JrK w' ρ' ja jp jj J i/\∀x,ρ' x≠0->ρ x≠0:=by
 have n:ρ A.m=3/\∀x,ρ x≠0->x<w.heap.size:=by obtain⟨_,_,_,f,_⟩:=h;exact⟨f.rm,f.own⟩
 have f:=h.dw (q:=q) (a:=a) (by rw[m];exact rA i) (fun x e=>by rw[l x e];exact rB i);obtain⟨o,-⟩:=f.put s (by simp[aCK]) (fun x e=>by simp[aCK,e]) r hF;refine⟨_,o,p.ae (Nat.le_succ _) hF n.2 (fun x e=>by rw[e,n.1];exact xJ vM) (fun x c=>?_),fun x c e0=>?_⟩
 ·have j:x≠q:=fun e=>by rw[e,m]at c;exact aOG (Nat.lt_irrefl i) c
  have k:a≠some x:=fun e=>by rw[l x e]at c;exact aOH (Nat.lt_irrefl i) c
  simp[vA,aCK,j,k]
 ·have j:x≠q:=fun e=>by rw[e,m]at e0;unfold jZ at e0;omega
  have k:a≠some x:=fun e=>by rw[l x e]at e0;unfold kC at e0;omega
  simp[vA,aCK,j,k,e0]at c
end
structure RsP(w:World)(ρ:Nat->Nat)(P:Nat)(f:fZ)(J:List aS)(gr:Nat)(rs:List (Int×Int))(e:Ending)(w':World):Prop where
 e:e=.returned (.tuple #[])
 ex:∃ρ' A',St w' ρ' P A' {eF f J with r:=rs} fT/\Frm (fun k=>ρ k≠0) w w'/\∀x,x≠gr->ρ' x≠0->ρ x≠0
theorem aHR(f:fZ)(K:List aS):(eF f K).c.length=f.c.length:=(pE f K).2.2.2.2.2
theorem aCJ(F:Fence)(n:Nat)(hF:nJ F Tryz.prog)(db:F.round=none)(hn:5<=n)
  (w:World) (ρ:Nat->Nat) (P:Nat) (A:Adr) (f:fZ) (J:List aS) (gr cr:Nat) (rs rj:List (Int×Int)) (hS:St w ρ P A f J) (lq:J.length<=900000) (Cg:f.c.length<=512) (ai:∀r∈J,r.1<f.c.length) (bh:IsC w gr (cY (rs++rj)) 92) (Hy:ρ gr=0) (IW:cr=rs.length+rj.length) (mw:rs.length+rj.length<=maxLen):
  CallsIn F n Tryz.prog 94 #[pT P 0,sL gr 0 rs.length cr] w (RsP w ρ P f J gr rs):=by
 have qe:1<=n:=by omega
 subst IW;obtain⟨C,t,jj,Z,L7⟩:=id hS;have hJ:=L7 (by omega);have D7:=Z.hP.lt;refine callsIn_of_wp_marks Tryz.func94 rfl (hF.fn _) ?_ db;simp only[Tryz.ntmps94,List.size_toArray,List.length_cons,List.length_nil,Nat.reduceAdd,Nat.reduceSub,Array.replicate_succ,Array.replicate_zero,List.push_toArray,List.append_toArray,List.nil_append,List.cons_append];obtain⟨B0,T⟩:=eZ (w.heap.size);obtain⟨w1,bx⟩:=eZ (w.alloc (.cells #[pT P 0] 61));have Jc:=bAl bx;have Nq:Boxed w1 B0 61 (pT P 0):=by rw[<-bx,<-T];exact Boxed.new _ _ _
 have k1:=Nq.cell;have bw:=hS.below Jc;have m7:w1.cell? (aD P 7)=some (.slice (adr C) t.length (t.length+jj.length)):=by
  rw[(Z.hP.of (Jc.block P D7):IsC w1 P _ _).cell];rfl
 have qu:=hF.fn;gi_wp2_with (gi_at_call 112;refine(yH F (n-1) (hF.fn _) db _ _ _ _).mono ?_;rintro e w' ⟨rfl,rfl⟩);obtain⟨B4,O⟩:=eZ (w1.heap.size);obtain⟨E,ci⟩:=eZ (w1.alloc (.cells #[.slice (adr C) t.length (t.length+jj.length)] 65));rw[ci,O];have M4:=bAl ci;have KV:=iNw ci O;have U:w1.heap.size=w.heap.size+1:=by rw[<-bx];simp
 have vt:E.heap.size=w1.heap.size+1:=by rw[<-ci];simp
 have yz:Bl w E:=Jc.trans (M4.mono (by omega));have ll:Boxed E B0 61 (pT P 0):=(M4.block _ (by omega)).trans Nq;have av:=hS.below yz;have Pu:JrK E ρ C t jj J J.length:=(hJ.ae (Frm.aa (S:=fun _=>False) yz) Z.own (fun _ e=>e.elim) (fun _ _ _=>rfl)).e6;have Gx:A.c<w.heap.size:=Z.hc.lt;have WI:A.m<w.heap.size:=Z.hm.lt;have Ih:∀g,C=some g->g<w.heap.size/\g≠A.c/\g≠A.m:=fun g e=>by
  obtain⟨B,Q⟩:=hJ.arr g e;exact⟨B.lt,fun q=>by rw[q,Z.rc]at Q;omega,fun q=>by rw[q,Z.rm]at Q;omega⟩
 have d5:(iZ t).length=J.length:=by rw[pD];exact hJ.len
 clear bx ci k1 m7;have Ju:OwnFrom E.heap.size (fun(c:List (Array Value)) W=>(∃ρ' A',St W ρ' P A' (eF f (J.drop (J.length-c.length))) fT/\JrK W ρ' C t jj J (J.length-c.length)/\A'.c=A.c/\A'.m=A.m/\(∀x,ρ' x≠0->ρ x≠0))/\Frm (fun k=>k=A.c\/k=A.m) E W/\Boxed W B0 61 (pT P 0)):=by
  refine fun c X Y row hs hg ko=>?_;obtain⟨⟨ρ',A',B,Q,h3,R,h5⟩,h6,h7⟩:=hs;have BN:∀x,row=some x->E.heap.size<=x:=fun x e=>(ko x e).1;obtain⟨_,_,_,Rm,_⟩:=id B;refine⟨⟨ρ',A',B.own hg fun x e=>⟨by have:=BN x e;rw[R];omega,(ko x e).2⟩,⟨fun g e=>⟨(Q.arr g e).1.own hg fun r e=>(ko r e).2,(Q.arr g e).2⟩,Q.nil,Q.len,fun i hi=>?_⟩,h3,R,h5⟩,h6.own hg BN,h7.kept hg fun e=>?_⟩
  ·obtain⟨a1,a2,a3⟩:=Q.row i hi
   refine⟨a1,a2,?_⟩;cases e:(J.getD i jr0).2.2 with
   | none=>rw[e]at a3;exact a3
   | some d=>
    rw[e]at a3;obtain⟨q,a,junk,I,K,L,m4⟩:=a3;exact⟨q,a,junk,I,K,L,m4.own hg fun r e=>(ko r e).2⟩
  ·have:=BN _ e.symm;omega
 refine uM db qe (gf:=132) (lb:=#[pT B4 0]) (vs:=iZ t) (Kp:=KpB B4 C) (w0:=E) rfl (qu _) (enters_of Tryz.func132 (by kernel_rfl) rfl)
  (fun l Jv W hW X3 hY h0=>wJ F (n-1) (qu _) db (by omega) l B4 _ C t jj (by rw[hJ.len];omega) Jv _ X3 hY W (KV.of (hW.block _ KV.lt)) (fun g e=>(Pu.arr g e).1.of (hW.block g (Pu.arr g e).1.lt)) (fun e=>(hJ.nil e).1) h0)
  KpB.trans (KpB.put KV.lt (fun g e=>by have:=(Ih g e).1;omega)) (bQ _ _) (fun x hx=>?_)
  (fun c W=>(∃ρ' A',St W ρ' P A' (eF f (J.drop (J.length-c.length))) fT/\JrK W ρ' C t jj J (J.length-c.length)/\A'.c=A.c/\A'.m=A.m/\(∀x,ρ' x≠0->ρ x≠0))/\Frm (fun k=>k=A.c\/k=A.m) E W/\Boxed W B0 61 (pT P 0))
  ?_ ⟨⟨ρ,A,by simpa [eF] using av.dead,by simpa using Pu,rfl,rfl,fun _ e=>e⟩,Frm.refl _ _,ll⟩ ?_ ?_
 ·unfold iZ at hx
  obtain⟨i,_,rfl⟩:=List.mem_map.1 hx;rfl
 ·exact Ju
 ·intro l c x W hi mj
  have FM:c.length<t.length:=by
   have:=mj.length_le
   rw[pD]at this;simp at this;omega
  have Du:x=#[iV ((t.length-1-c.length:Nat):Int),aKF (t.getD (t.length-1-c.length) j0)]:=by
   have B:=yG t FM;obtain⟨post,Lb⟩:=mj;rw[<-Lb,List.append_assoc,List.getElem?_append_right (nR _)]at B;simp at B;exact B
  obtain⟨i,Hi⟩:=exH (t.length-1-c.length);have V9:i<J.length:=by rw[<-hJ.len,Hi.out];omega
  have ie:J.length-c.length=i+1:=by rw[<-hJ.len,Hi.out];omega
  have AX:J.length -(c++[x]).length=i:=by rw[lP,List.length_singleton,<-hJ.len,Hi.out];omega
  rw[<-Hi.out]at Du;obtain⟨⟨xb,xc,xp⟩,py⟩:∃r,t.getD i j0=r:=⟨_,rfl⟩;obtain⟨⟨b,j,nd⟩,Jn⟩:∃r,J.getD i jr0=r:=⟨_,rfl⟩;have kv:(b,j,nd)∈J:=by
   rw[<-Jn,gD,gE V9];exact List.getElem_mem _
  have Gs:b<f.c.length:=ai _ kv;obtain⟨⟨ρ0,A0,g1,g2,g3,g4,g5⟩,g6,g7⟩:=id hi;rw[ie]at g2;obtain⟨r1,r2,-⟩:=g2.row i (by omega);rw[py,Jn]at r1 r2;simp only at r1 r2;subst r1;have r2':=r2.symm;subst r2';clear r2;obtain⟨pv,EG⟩:∃pv,fB xp=.pointer pv:=⟨_,rfl⟩;rw[py]at Du;unfold aKF at Du;simp only at Du;rw[EG]at Du;subst Du;obtain⟨W',KG⟩:=eZ (W.alloc (.cells #[iV b,iV j,.pointer pv] 178));obtain⟨V,hV⟩:=eZ (W.heap.size);have Hl:E.heap.size<=V:=by rw[<-hV];exact g6.size
  have FE:W.grownBy W' none:=by rw[<-KG];exact World.grownBy_alloc _ _ none
  have Fy:IsC W' V #[iV b,iV j,.pointer pv] 178:=by rw[<-KG,<-hV];exact IsC.new _ _ _
  have hi':=Ju _ _ _ none hi FE (fun r e=>by cases e);have M:KeepsFrom E.heap.size W W':=⟨FE.size,fun k o _ hk _=>(FE.block k (Array.getElem?_eq_some_iff.1 hk).1 (by simp)).trans hk⟩;have G:KpB B4 C W W':=⟨FE.size,FE.block _ (by omega) (by simp),fun g e=>FE.block g (by have:=(Ih g e).1;have:=yz.size;omega) (by simp)⟩;have ny:=aA (aI U (aI vt (aI O T)));have HX:=aA (aI M (aI G (aI hi' Fy)));have HR:=aA (aI py (aI Jn (aI EG (aI ie AX))));clear M G hi' Fy hi g1 g2 g3 g4 g5 g6 g7 FE py Jn EG ie AX U vt O T;gi_wp2;obtain⟨M,G,hi',Fy⟩:=HX.out;refine⟨M,G,fun _ m=>(fun(c:List (Array Value)) W=>(∃ρ' A',St W ρ' P A' (eF f (J.drop (J.length-c.length))) fT/\JrK W ρ' C t jj J (J.length-c.length)/\A'.c=A.c/\A'.m=A.m/\(∀x,ρ' x≠0->ρ x≠0))/\Frm (fun k=>k=A.c\/k=A.m) E W/\Boxed W B0 61 (pT P 0)) c m/\IsC m V #[iV b,iV j,.pointer pv] 178,fun _ X Y row hs hg ko=>⟨Ju _ _ _ row hs.1 hg ko,hs.2.own hg fun r e=>(ko r e).2⟩,⟨hi',Fy⟩,?_⟩;clear M G hi' Fy HX;rintro m ⟨⟨⟨ρ1,A1,B,Q,h3,R,h5⟩,h6,h7⟩,ul⟩;obtain⟨py,Jn,EG,ie,AX⟩:=HR.out;rw[ie]at B Q;obtain⟨_,_,r3⟩:=Q.row i (by omega);rw[py,Jn]at r3;simp only at r3;obtain⟨_,_,_,jd,_⟩:=id B;have Df:(eF f (J.drop (i+1))).c.length=f.c.length:=aHR _ _;have nc4:m.cell? (aD P 4)=some (sL A.c 0 f.c.length f.c.length):=by
   rw[jd.hP.cell,<-h3,<-Df];rfl
  have mo:=h7.cell;have v0:m.cell? (aD V 0)=some (iV b):=ul.c rfl;have v1:m.cell? (aD V 1)=some (iV j):=ul.c rfl;obtain⟨nc,Uu⟩:=exH (f.c.length);rw[<-Uu.out]at nc4;have vp:m.drew.cell? (aD B0 0)=some (pT P 0)/\m.drew.cell? (aD P 4)=some (sL A.c 0 nc nc)/\m.drew.cell? (aD V 0)=some (iV b)/\m.drew.cell? (aD V 1)=some (iV j):=⟨mo,nc4,v0,v1⟩;have DC:(b:Int) <(nc:Int):=by rw[Uu.out];omega
  have jy:m.cell? (aD A.c b)=some (iV (cu (eF f (J.drop (i+1))) b)):=by rw[<-h3];exact jd.count (by rw[Df];exact Gs)
  have Ic:m.frozen? (aD A.c b)=false:=by rw[<-h3];exact jd.hc.frozen b
  obtain⟨u1,u2⟩:=B.eg Q (b:=b) (by rw[Df];exact Gs) j;rw[h3]at u1 u2;gi_wp2;refine gK (fun W=>W.cell? (aD B0 0)=some (pT P 0)/\W.cell? (aD P 4)=some (sL A.c 0 nc nc)/\W.cell? (aD V 0)=some (iV b)/\W.cell? (aD V 1)=some (iV j)) 9 (hF.inRound l) (fun _=>by omega) (by kernel_rfl) ?_ (by kernel_rfl) ?_
  ·rintro⟨a,w,h⟩;exact h
  refine tJ 0 13 (pT P 0) rfl vp ?_;refine tJ 1 14 (pT P 0) rfl vp ?_;refine tJ 2 15 (pT P 4) rfl vp ?_;refine tJ 3 16 (sL A.c 0 nc nc) rfl vp ?_;refine tJ 4 17 (pT V 0) rfl vp ?_;refine tJ 5 18 (iV b) rfl vp ?_;refine tJ 6 19 (pT V 1) rfl vp ?_;refine tJ 7 20 (iV j) rfl vp ?_;simp only[Act.put,sB,sZ,sS];refine oE 8 rfl fun K2 ae=>?_;go_simp;refine ae _ _ (fun _=>vp) ?_;clear ae K2;refine oE 9 rfl fun K2 ae=>?_;go_simp;refine ae _ _ (fun q=>absurd rfl q) ?_;clear ae K2;refine aT (by kernel_rfl) ?_ _;obtain⟨U,vt,O,T⟩:=ny.out;have bo:Frm (fun k=>k=A.c) m (m.setCell (aD A.c b) (iV j)).drew:=(Frm.set (S:=fun k=>k=A.c) m (p:=aD A.c b) rfl _).trans (Frm.drew _ _);have BT:(m.setCell (aD A.c b) (iV j)).drew.heap.size=m.heap.size:=cR (g:=A.c) [_] m b;have u3:=u1.below (bQ _ _).drew;have u4:JrK (m.setCell (aD A.c b) (iV j)).drew ρ1 C t jj J (i+1):=by
   obtain⟨_,_,_,YE,_⟩:=id u1;exact u2.ae (S:=fun _=>False) (nR _) (Frm.drew _ _) YE.own (fun _ e=>e.elim) (fun _ _=>rfl)
  have YI:V≠A.c:=by have:=yz.size;omega
  have Fx:IsC (m.setCell (aD A.c b) (iV j)).drew V #[iV b,iV j,.pointer pv] 178:=ul.ae bo YI;have lk:Boxed (m.setCell (aD A.c b) (iV j)).drew B0 61 (pT P 0):=(bo.block _ h7.lt (by omega)).trans h7;have Mq:=aA (aI U (aI vt (aI O T)));clear vp u1 u2 jy Ic nc4 mo v0 v1 U vt O T;generalize (m.setCell (aD A.c b) (iV j)).drew=u at *;have mo:=lk.cell;have v0:u.cell? (aD V 0)=some (iV b):=Fx.c rfl;have v2:u.cell? (aD V 2)=some (.pointer pv):=Fx.c rfl;obtain⟨_,_,_,ni,_⟩:=id u3;have p3:u.cell? (aD P 3)=some (.map (some A.m)):=by rw[<-R];exact ni.cells.m3
  have El:=u3.below (bQ u.heap.size u).drew;have u4d:JrK u.drew ρ1 C t jj J (i+1):=u4.ae (S:=fun _=>False) (nR _) (Frm.drew _ _) ni.own (fun _ e=>e.elim) (fun _ _=>rfl);obtain⟨_,_,_,Gk,_⟩:=id El;have rq:=aEV (J:=J) f V9;rw[Jn]at rq;cases nd with
  | none=>
   have hxp:xp=none:=r3;have Iq:pv=none:=by rw[hxp]at EG;simp[fB]at EG;exact EG.symm
   subst Iq;obtain⟨y,GG,o6,H⟩:=Gk.hm.del b (by omega) 0;rw[R]at GG;obtain⟨y1,y2⟩:=El.eh u4d o6 H;have HN:Hid ((∃ρ' A',St y ρ' P A' (eF f (J.drop i)) fT/\JrK y ρ' C t jj J i/\A'.c=A.c/\A'.m=A.m/\(∀x,ρ' x≠0->ρ x≠0))):=⟨ρ1,gU A1 b,by rw[rq];exact y1,y2,h3,R,h5⟩;have v:u.drew.cell? (aD B0 0)=some (pT P 0)/\u.drew.cell? (aD P 3)=some (.map (some A.m))/\u.drew.cell? (aD V 0)=some (iV b):=⟨mo,p3,v0⟩;clear y1 y2 rq r3 o6 u3 u4 El u4d ni Gk;have vb:=aA H;clear H;gi_wp2;refine gK (fun W=>W.cell? (aD B0 0)=some (pT P 0)/\W.cell? (aD P 3)=some (.map (some A.m))/\W.cell? (aD V 0)=some (iV b)) 6 (hF.inRound l) (fun _=>by omega) (by kernel_rfl) ?_ (by kernel_rfl) ?_
   ·rintro⟨a,w,h⟩;exact h
   ·skip
    refine aX (i:=0) 25 (pT P 0) (by kernel_rfl) (by kernel_rfl) rfl (by kernel_rfl) (by kernel_rfl) (by kernel_rfl) (fun _ _ _ h=>h) rfl rfl v (fun w' s=>by obtain⟨I,K,L⟩:=s;go_simp;try rfl) ?_;simp only[Act.put,sB,sZ,sS];refine aX (i:=1) 26 (pT P 0) (by kernel_rfl) (by kernel_rfl) rfl (by kernel_rfl) (by kernel_rfl) (by kernel_rfl) (fun _ _ _ h=>h) rfl rfl v (fun w' s=>by obtain⟨I,K,L⟩:=s;go_simp;try rfl) ?_;simp only[Act.put,sB,sZ,sS];refine aX (i:=2) 27 (pT P 3) (by kernel_rfl) (by kernel_rfl) rfl (by kernel_rfl) (by kernel_rfl) (by kernel_rfl) (fun _ _ _ h=>h) rfl rfl v (fun w' s=>by obtain⟨I,K,L⟩:=s;go_simp;try rfl) ?_;simp only[Act.put,sB,sZ,sS];refine aX (i:=3) 28 (.map (some A.m)) (by kernel_rfl) (by kernel_rfl) rfl (by kernel_rfl) (by kernel_rfl) (by kernel_rfl) (fun _ _ _ h=>h) rfl rfl v (fun w' s=>by obtain⟨I,K,L⟩:=s;go_simp;try rfl) ?_;simp only[Act.put,sB,sZ,sS];refine aX (i:=4) 29 (pT V 0) (by kernel_rfl) (by kernel_rfl) rfl (by kernel_rfl) (by kernel_rfl) (by kernel_rfl) (fun _ _ _ h=>h) rfl rfl v (fun w' s=>by obtain⟨I,K,L⟩:=s;go_simp;try rfl) ?_;simp only[Act.put,sB,sZ,sS];refine aX (i:=5) 30 (iV b) (by kernel_rfl) (by kernel_rfl) rfl (by kernel_rfl) (by kernel_rfl) (by kernel_rfl) (fun _ _ _ h=>h) rfl rfl v (fun w' s=>by obtain⟨I,K,L⟩:=s;go_simp;try rfl) ?_;simp only[Act.put,sB,sZ,sS];refine oE 6 rfl fun K2 ae=>?_;go_simp;refine ae _ _ (fun q=>absurd rfl q) ?_;clear ae K2;refine aT (by kernel_rfl) ?_ _;obtain⟨U,vt,O,T⟩:=Mq.out;have H:=vb.out;have i5:∀k,k<m.heap.size->k≠A.c->k≠A.m->y.heap[k]?=m.heap[k]?:=fun k hk e1 e2=>(H.block k (by show k<u.heap.size;rw[BT];exact hk) (by rw[R];exact e2)).trans (bo.block k hk e1);have N:Frm (fun k=>k=A.c\/k=A.m) E y:=((h6.trans (bo.wide fun k _ e=>.inl e)).trans (Frm.drew _ _)).trans (H.wide fun k _ e=>.inr (by rw[<-R];exact e));have Dt:m.heap.size<=y.heap.size:=by rw[<-BT];exact H.size
    have ZT:=yz.size;have Ty:=h6.size;have gi:Boxed y B0 61 (pT P 0):=(i5 _ h7.lt (by omega) (by omega)).trans h7;have M:KeepsFrom E.heap.size m y:=⟨Dt,fun k o hk AY _=>(i5 k (Array.getElem?_eq_some_iff.1 AY).1 (by omega) (by omega)).trans AY⟩;have G:KpB B4 C m y:=⟨Dt,i5 _ (by omega) (by omega) (by omega),fun g e=>i5 g (by have:=(Ih g e).1;omega) (Ih g e).2.1 (Ih g e).2.2⟩;have HF:=aA (aI M (aI G (aI N gi)));clear M G N gi i5 U vt O T v;gi_wp2;obtain⟨M,G,N,gi⟩:=HF.out;obtain⟨ρ',A',z⟩:=HN.out;exact⟨M,G,⟨ρ',A',by rw[HR.out.2.2.2.2];exact z⟩,N,gi⟩
  | some d=>
   obtain⟨qj,aj,junkj,z1,z2,z3,z4⟩:=r3;have Iq:pv=some ⟨qj,0,none⟩:=by rw[z1]at EG;simp[fB]at EG;exact EG.symm
   subst Iq;have Td:qj≠A.c:=fun e=>by have e1:=jd.rc;rw[h3,<-e,z2]at e1;unfold jZ at e1;omega
   have YM:∀x,aj=some x->x≠A.c:=fun x ex e=>by have e1:=jd.rc;rw[h3,<-e,z3 x ex]at e1;unfold kC at e1;omega
   have sx:aN u.drew qj d aj junkj:=(z4.ae bo Td YM).below (bQ u.heap.size u).drew;obtain⟨y,GG,o6,H⟩:=Gk.hm.put b qj (by omega);rw[R]at GG;obtain⟨ρ2,y1,y2,y3⟩:=El.ei u4d z2 z3 sx o6 H;have HN:Hid ((∃ρ' A',St y ρ' P A' (eF f (J.drop i)) fT/\JrK y ρ' C t jj J i/\A'.c=A.c/\A'.m=A.m/\(∀x,ρ' x≠0->ρ x≠0))):=⟨ρ2,dB A1 b qj aj,by rw[rq];exact y1,y2,h3,R,fun x e=>h5 x (y3 x e)⟩;have v:u.drew.cell? (aD B0 0)=some (pT P 0)/\u.drew.cell? (aD P 3)=some (.map (some A.m))/\u.drew.cell? (aD V 0)=some (iV b)/\u.drew.cell? (aD V 2)=some (pT qj 0):=⟨mo,p3,v0,v2⟩;clear y1 y2 y3 rq o6 u3 u4 El u4d ni Gk sx;have vb:=aA H;clear H;gi_wp2;refine gK (fun W=>W.cell? (aD B0 0)=some (pT P 0)/\W.cell? (aD P 3)=some (.map (some A.m))/\W.cell? (aD V 0)=some (iV b)/\W.cell? (aD V 2)=some (pT qj 0)) 8 (hF.inRound l) (fun _=>by omega) (by kernel_rfl) ?_ (by kernel_rfl) ?_
   ·rintro⟨a,w,h⟩;exact h
   ·skip
    refine aX (i:=0) 31 (pT P 0) (by kernel_rfl) (by kernel_rfl) rfl (by kernel_rfl) (by kernel_rfl) (by kernel_rfl) (fun _ _ _ h=>h) rfl rfl v (fun w' s=>by obtain⟨I,K,L,m4⟩:=s;go_simp;try rfl) ?_;simp only[Act.put,sB,sZ,sS];refine aX (i:=1) 32 (pT P 0) (by kernel_rfl) (by kernel_rfl) rfl (by kernel_rfl) (by kernel_rfl) (by kernel_rfl) (fun _ _ _ h=>h) rfl rfl v (fun w' s=>by obtain⟨I,K,L,m4⟩:=s;go_simp;try rfl) ?_;simp only[Act.put,sB,sZ,sS];refine aX (i:=2) 33 (pT P 3) (by kernel_rfl) (by kernel_rfl) rfl (by kernel_rfl) (by kernel_rfl) (by kernel_rfl) (fun _ _ _ h=>h) rfl rfl v (fun w' s=>by obtain⟨I,K,L,m4⟩:=s;go_simp;try rfl) ?_;simp only[Act.put,sB,sZ,sS];refine aX (i:=3) 34 (.map (some A.m)) (by kernel_rfl) (by kernel_rfl) rfl (by kernel_rfl) (by kernel_rfl) (by kernel_rfl) (fun _ _ _ h=>h) rfl rfl v (fun w' s=>by obtain⟨I,K,L,m4⟩:=s;go_simp;try rfl) ?_;simp only[Act.put,sB,sZ,sS];refine aX (i:=4) 35 (pT V 0) (by kernel_rfl) (by kernel_rfl) rfl (by kernel_rfl) (by kernel_rfl) (by kernel_rfl) (fun _ _ _ h=>h) rfl rfl v (fun w' s=>by obtain⟨I,K,L,m4⟩:=s;go_simp;try rfl) ?_;simp only[Act.put,sB,sZ,sS];refine aX (i:=5) 36 (iV b) (by kernel_rfl) (by kernel_rfl) rfl (by kernel_rfl) (by kernel_rfl) (by kernel_rfl) (fun _ _ _ h=>h) rfl rfl v (fun w' s=>by obtain⟨I,K,L,m4⟩:=s;go_simp;try rfl) ?_;simp only[Act.put,sB,sZ,sS];refine aX (i:=6) 37 (pT V 2) (by kernel_rfl) (by kernel_rfl) rfl (by kernel_rfl) (by kernel_rfl) (by kernel_rfl) (fun _ _ _ h=>h) rfl rfl v (fun w' s=>by obtain⟨I,K,L,m4⟩:=s;go_simp;try rfl) ?_;simp only[Act.put,sB,sZ,sS];refine aX (i:=7) 38 (pT qj 0) (by kernel_rfl) (by kernel_rfl) rfl (by kernel_rfl) (by kernel_rfl) (by kernel_rfl) (fun _ _ _ h=>h) rfl rfl v (fun w' s=>by obtain⟨I,K,L,m4⟩:=s;go_simp;try rfl) ?_;simp only[Act.put,sB,sZ,sS];refine oE 8 rfl fun K2 ae=>?_;go_simp;refine ae _ _ (fun q=>absurd rfl q) ?_;clear ae K2;refine aT (by kernel_rfl) ?_ _;obtain⟨U,vt,O,T⟩:=Mq.out;have H:=vb.out;have i5:∀k,k<m.heap.size->k≠A.c->k≠A.m->y.heap[k]?=m.heap[k]?:=fun k hk e1 e2=>(H.block k (by show k<u.heap.size;rw[BT];exact hk) (by rw[R];exact e2)).trans (bo.block k hk e1);have N:Frm (fun k=>k=A.c\/k=A.m) E y:=((h6.trans (bo.wide fun k _ e=>.inl e)).trans (Frm.drew _ _)).trans (H.wide fun k _ e=>.inr (by rw[<-R];exact e));have Dt:m.heap.size<=y.heap.size:=by rw[<-BT];exact H.size
    have ZT:=yz.size;have Ty:=h6.size;have gi:Boxed y B0 61 (pT P 0):=(i5 _ h7.lt (by omega) (by omega)).trans h7;have M:KeepsFrom E.heap.size m y:=⟨Dt,fun k o hk AY _=>(i5 k (Array.getElem?_eq_some_iff.1 AY).1 (by omega) (by omega)).trans AY⟩;have G:KpB B4 C m y:=⟨Dt,i5 _ (by omega) (by omega) (by omega),fun g e=>i5 g (by have:=(Ih g e).1;omega) (Ih g e).2.1 (Ih g e).2.2⟩;have HF:=aA (aI M (aI G (aI N gi)));clear M G N gi i5 U vt O T v;gi_wp2;obtain⟨M,G,N,gi⟩:=HF.out;obtain⟨ρ',A',z⟩:=HN.out;exact⟨M,G,⟨ρ',A',by rw[HR.out.2.2.2.2];exact z⟩,N,gi⟩
 ·rintro D W hD ⟨⟨ρ',A',B,Q,h3,R,h5⟩,h6,h7⟩ hK
  rw[d5,Nat.sub_self,List.drop_zero]at B;obtain⟨_,_,_,Rm,_⟩:=id B;have bu:gr≠A.c:=fun e=>by rw[e,Z.rc]at Hy;omega
  have BF:gr≠A.m:=fun e=>by rw[e,Z.rm]at Hy;omega
  have FE:IsC W gr (cY (rs++rj)) 92:=(bh.of (yz.block gr bh.lt)).ae h6 (fun e=>by rcases e with e | e;exact bu e;exact BF e);have vj:ρ' gr=0:=Nat.eq_zero_of_not_pos fun q=>h5 gr (by omega) Hy;obtain⟨q1,q2⟩:=B.bx (w1:=W) (Frm.refl _ _) FE (.inr vj) mw;have mo:=h7.cell;have z0:W.cell? (aD P 0)=some (sL A'.ra 0 (eF f J).r.length ((eF f J).r.length+A'.rj.length)):=by rw[Rm.hP.cell];rfl
  have zf:=Rm.hP.frozen 0;have Xt:D≠P:=by have:=yz.size;omega
  have C1:(W.setCell (aD P 0) (sL gr 0 rs.length (rs.length+rj.length))).heap[D]?=some (.deferred (some [])):=(aU _ _ Xt).trans hK;have N:Frm (fun k=>ρ k≠0) w (W.setCell (aD P 0) (sL gr 0 rs.length (rs.length+rj.length))):=by
   refine((Frm.aa yz).next h6 (fun x _ e=>?_)).trans (Frm.set (S:=fun k=>ρ k≠0) W (p:=aD P 0) (by show ρ P≠0;rw[Z.rP];omega) _);rcases e with e | e
   ·rw[e,Z.rc];omega
   ·rw[e,Z.rm];omega
  have HF:=aA (aI q1 (aI N C1));have ny:=aA (aI U (aI vt (aI O T)));clear q1 q2 N C1 U vt O T av bw Pu Q hJ L7 hS;gi_wp2;obtain⟨q1,N,C1⟩:=HF.out;obtain⟨U,vt,O,T⟩:=ny.out;generalize W.setCell (aD P 0) (sL gr 0 rs.length (rs.length+rj.length))=W5 at *;have Dj:W5.grownBy (W5.putObj D (.deferred none)) (some D):=grownBy_putObj' W5 D _;refine⟨by simp,.inl ⟨_,_,rfl,run_takeDeferred C1,?_⟩⟩;refine⟨.tuple #[],by simp[results,Tryz.f94,go_sem],⟨rfl,oT ρ' gr,_,q1.own Dj fun x e=>?_,N.own Dj fun x e=>?_,fun x hx e=>?_⟩⟩
  ·cases e;exact⟨by show D≠A'.m;rw[R];have:=yz.size;omega,_,C1,rfl⟩
  ·cases e;have:=yz.size;omega
  ·unfold oT at e;rw[if_neg hx]at e;exact h5 x e
end Go.Proofs.YtmpagpeenjddgaaGreat
namespace Go.Proofs.YtmpagpeenjddgaaGreat
open Go.RowKit Go.Shelf Fo
attribute [local go_sem] Oper.semAt_some
theorem aHF(a:Int):wrap64 (wrap64 a+1)=wrap64 (a+1):=by
 simp only[wrap64];omega
def fR(zs ys:List Int):Int:=((frs zs ys zs.length zs.length).length:Int)
theorem wQ(F:Fence)(n:Nat)(m:∀k,F.fn k)(i:F.round=none)(hn:3<=n)(a d:Option Addr)(c f:Nat)(zs ys:List Int)(I:ys.length=zs.length)(P:zs.length<=512)(J:8<=zs.length)(w:World)(N:Nts w (.slice a zs.length c) zs)(Q:Nts w (.slice d ys.length f) ys):
  CallsIn F n Tryz.prog 95 #[.slice a zs.length c,.slice d ys.length f] w fun e W'=>e=.returned (iV (fR zs ys))/\Bl w W':=by
 have R:1<=n:=by omega
 have L:Hid (ys.length=zs.length):=I;clear I;refine callsIn_of_wp_marks Tryz.func95 rfl (m _) ?_ i;simp only[Tryz.ntmps95,List.size_toArray,List.length_cons,List.length_nil,Nat.reduceAdd,Nat.reduceSub,Array.replicate_succ,Array.replicate_zero,List.push_toArray,List.append_toArray,List.nil_append,List.cons_append];gi_wp2_with (gi_at_call 113;refine(jH F (n-1) (m _) i _ _ _ ⟨_,_,_,rfl⟩ ⟨_,_,_,rfl⟩).mono ?_;rintro e w' ⟨rfl,rfl⟩);have y:=Boxed.new w 2 (iV 0);have z:=Boxed.new (w.alloc (.cells #[iV 0] 2)) 29 (.slice a zs.length c);have C:=Boxed.new ((w.alloc (.cells #[iV 0] 2)).alloc (.cells #[.slice a zs.length c] 29)) 29 (.slice d ys.length f);simp only[World.size_alloc]at z C;have E:Bl w (((w.alloc (.cells #[iV 0] 2)).alloc (.cells #[.slice a zs.length c] 29)).alloc (.cells #[.slice d ys.length f] 29)):=(((bQ _ w).alloc (nR _) _).alloc (by simp) _).alloc (by simp;omega) _;refine wpIn_rangeFunc_ownF i R (gf:=133) (lb:=#[pT (w.heap.size+1) 0,pT (w.heap.size+1+1) 0]) rfl (m _) (enters_of Tryz.func133 (by kernel_rfl) rfl)
  (mU F (n-1) (m _) i (by omega) (w.heap.size+1) (w.heap.size+1+1) w.heap.size a d c f zs ys L.out P J _ (by simp) (by simp) (by simp;omega) ((z.alloc _).cell) C.cell w N Q (by omega) E) KpF.trans (KpF.put (by simp;omega) (by simp) (by simp)) (bQ _ _) (fun _=>rfl)
  (fun b W=>(W.cell? (aD w.heap.size 0)=some (iV (wrap64 (b.length:Int)))/\W.frozen? (aD w.heap.size 0)=false)/\Bl w W)
  (fun k b W=>False/\Bl w W)
  (OwnFrom.and (Own.from (fun s A B u h r t=>⟨cell_kept h.1 r t,(frozen_kept h.1 r t).trans h.2⟩) _) (ownFrom_below (nR _) (by simp;omega)))
  (fun k=>OwnFrom.and (Own.from (fun s A B u h r t=>h) _) (ownFrom_below (nR _) (by simp;omega)))
  ⟨⟨by(have e0:wrap64 ((([]:List (Blk zs.length)).length:Nat):Int)=0:=(by simp[wrap64]));rw[e0];exact((y.alloc _).alloc _).cell,((y.alloc _).alloc _).frozen⟩,E⟩
  (fun x=>{tmps:=#[.slice a zs.length c,.slice d ys.length f,undef,undef,iV 0,pT w.heap.size 0,.slice a zs.length c,.slice d ys.length f,.func (.func 133) #[] #[pT (w.heap.size+1) 0,pT (w.heap.size+1+1) 0],iV (x.1:Int),undef,undef,undef],defers:=[]}) ?assign ?body ?done ?stop
 case assign=>
  intro l x W K g;gi_wp2;simpa using g
 case body=>
  rintro l b x W ⟨⟨o,H⟩,j⟩ _;have v:wrap64 (wrap64 (b.length:Int)+1)=wrap64 (((b++[x]).length:Nat):Int):=by rw[aHF];simp
  have M:=aA v;clear v;generalize wrap64 (b.length:Int)=q at *;gi_wp2;refine⟨KeepsOthers.setCell _ _ _,⟨(bQ _ W).setCell (p:=aD w.heap.size 0) (nR _) _,aU _ _ (by show w.heap.size+1≠w.heap.size;omega),aU _ _ (by show w.heap.size+1+1≠w.heap.size;omega)⟩,⟨?_,?_⟩,j.setCell (p:=aD w.heap.size 0) (nR _) _⟩
  ·rw[World.cell?_setCell_same' _ _ _ (by rw[o];rfl),M.out]
  ·rw[World.frozen?_setCell];exact H
 case done=>
  rintro D xs W G rfl ⟨⟨o,H⟩,j⟩ g;have S:wrap64 (((frs zs ys zs.length zs.length).length:Nat):Int)=fR zs ys:=by
   have:=jV zs ys zs.length zs.length
   unfold fR;simp only[wrap64];omega
  rw[S]at o;gi_wp2;refine⟨by simp,.inl ⟨_,_,rfl,run_takeDeferred g,?_⟩⟩;refine⟨iV (fR zs ys),?_,rfl,j.trans (belowK_b (w:=w) (nR _) W D _ _ (by simp at G;omega) g rfl rfl)⟩;simp[results,Tryz.f95,go_sem]
 case stop=>
  rintro D k b W G ⟨q,T,U⟩ ⟨O,j⟩ g;exact O.elim
theorem tR(w:World)(ρ:Nat->Nat)(P:Nat)(A:Adr)(f:fZ)(J:List aS)(gr:Nat)(rs rj:List (Int×Int))(e:St w ρ P A f J)(g:J.length<=900000)(a:f.c.length<=512)(c:∀r∈J,r.1<f.c.length)(d:IsC w gr (cY (rs++rj)) 92)(b:ρ gr=0)(h:rs.length+rj.length<=maxLen):
  Calls Tryz.prog 94 #[pT P 0,sL gr 0 rs.length (rs.length+rj.length)] w (RsP w ρ P f J gr rs):=
 (callsIn_wide (n:=5)).1 (aCJ Fence.wide 5 (nJ.wide _) rfl (nR _) w ρ P A f J gr _ rs rj e g a c d b rfl h)
theorem aBI(w:World):(Instr.typeAssert (.iface 160 (.agg #[])) 20 160 true).run Tryz.prog w=.ok (.tuple #[.agg #[],.bool true]) w:=by kernel_rfl
structure CtP(w:World)(ρ:Nat->Nat)(P:Nat)(f:fZ)(J:List aS)(gr:Nat)(rs:List (Int×Int))(cd:Nat)(w':World):Prop where
 ex:∃ρ' A',St w' ρ' P A' {eF f J with r:=rs} fT/\Frm (fun k=>ρ k≠0\/k=cd) w w'/\∀x,x≠gr->ρ' x≠0->ρ x≠0
 cd:w'.cell? (aD cd 0)=some (iV 7)
theorem aBL(a g h:Nat)(b:List PanicEntry)(w:World)(ρ:Nat->Nat)(P:Nat)(A:Adr)(f:fZ)(J:List aS)(gr:Nat)(rs rj:List (Int×Int))(M:St w ρ P A f J)(Q:J.length<=900000)(D:f.c.length<=512)(K:∀r∈J,r.1<f.c.length)(o:IsC w gr (cY (rs++rj)) 92)(F:ρ gr=0)(R:rs.length+rj.length<=maxLen)
  (i:IsC w a #[iV 0] 2) (z:IsC w g #[pT P 0] 61) (t:IsC w h #[sL gr 0 rs.length (rs.length+rj.length)] 56) (y:ρ a=0/\ρ g=0/\ρ h=0):
  CallsD Tryz.prog 93 #[pT a 0,pT g 0,pT h 0] (.panicking ({v:=.iface 160 (.agg #[]),recovered:=false} :: b)) w fun e u' w'=>
   e=.returned (.tuple #[])/\u'=.panicking ({v:=.iface 160 (.agg #[]),recovered:=true} :: b)/\CtP w ρ P f J gr rs a w':=by
 refine callsD_of_wpS Tryz.func93 rfl fun W cs O=>?_;refine wpS_seq ?_;refine wpS_seq ?_;apply wpS_region;simp[wpOpsS,go_sem,recoverD,O,Tryz.ntmps93,Exit.thenS];refine wpS_of_wp ?_;simp only[Array.replicate_succ,Array.replicate_zero,List.push_toArray,List.setIfInBounds_toArray,List.set_cons_zero,List.set_cons_succ,List.append_toArray,List.nil_append,List.cons_append];obtain⟨w1,q⟩:=eZ (w.alloc (.cells #[] 160));have s:=bAl q;have j:=i.of (s.block _ i.lt);have U:w1.cell? (aD a 0)=some (iV 0):=j.c rfl;have V:=j.frozen 0;have N:=aBI;obtain⟨c,l⟩:=eZ (w1.setCell (aD a 0) (iV 7));have d:Frm (fun k=>k=a) w c:=by rw[<-l];exact(Frm.aa s).trans (Frm.set (S:=fun k=>k=a) w1 (p:=aD a 0) rfl _)
 have n:IsC c a #[iV 7] 2:=by
  have:=j.set 0 (iV 7)
  rw[l]at this;exact this
 go_wp2
 refine wpS_of_wp ?_;have L:St c ρ P A f J:=M.ae (d.wide fun k _ e=>by rw[e];exact y.1);have H:IsC c gr (cY (rs++rj)) 92:=o.ae d (fun e=>IsC.ne (e▸o) i (by decide) rfl);have T:IsC c g #[pT P 0] 61:=z.ae d (fun e=>IsC.ne (e▸z) i (by decide) rfl);have I:IsC c h #[sL gr 0 rs.length (rs.length+rj.length)] 56:=t.ae d (fun e=>IsC.ne (e▸t) i (by decide) rfl);have d1:c.cell? (aD a 0)=some (iV 7):=n.c rfl;have d2:c.cell? (aD g 0)=some (pT P 0):=T.c rfl;have X:c.cell? (aD h 0)=some (sL gr 0 rs.length (rs.length+rj.length)):=I.c rfl;clear q l;go_wp2_with fail;refine(tR c ρ P A f J gr rs rj L Q D K H F R).mono ?_;rintro e B ⟨rfl,ρ3,C,u,m,x⟩;have G:IsC B a #[iV 7] 2:=n.ae m (fun e=>e y.1);have E:Hid (CtP w ρ P f J gr rs a B):=⟨⟨ρ3,C,u,(d.wide fun k _ e=>.inr e).trans (m.wide fun k _ e=>.inl e),x⟩,G.c rfl⟩;clear u m x;go_wp2;exact⟨rfl,_,rfl,.tuple #[],by simp[results,Tryz.f93,go_sem],rfl,rfl,E.out⟩
theorem aBK(a b c:Nat)(w:World)(ρ:Nat->Nat)(P:Nat)(A:Adr)(f:fZ)(J:List aS)(gr:Nat)(rs rj:List (Int×Int))(x:St w ρ P A f J)(z:J.length<=900000)(m:f.c.length<=512)(q:∀r∈J,r.1<f.c.length)(s:IsC w gr (cY (rs++rj)) 92)(o:ρ gr=0)(B:rs.length+rj.length<=maxLen)
  (i:IsC w a #[iV 7] 2) (C:IsC w b #[pT P 0] 61) (u:IsC w c #[sL gr 0 rs.length (rs.length+rj.length)] 56) (v:ρ a=0/\ρ b=0/\ρ c=0):
  CallsD Tryz.prog 93 #[pT a 0,pT b 0,pT c 0] .returning w fun e u' w'=>
   e=.returned (.tuple #[])/\u'=.returning/\CtP w ρ P f J gr rs a w':=by
 refine callsD_of_wpS Tryz.func93 rfl fun t cs y=>?_;refine wpS_seq ?_;refine wpS_seq ?_;apply wpS_region;simp[wpOpsS,go_sem,recoverD,y,Tryz.ntmps93,Exit.thenS];refine wpS_of_wp ?_;simp only[Array.replicate_succ,Array.replicate_zero,List.push_toArray,List.setIfInBounds_toArray,List.set_cons_zero,List.set_cons_succ,List.append_toArray,List.nil_append,List.cons_append];have d1:w.cell? (aD a 0)=some (iV 7):=i.c rfl;have d2:w.cell? (aD b 0)=some (pT P 0):=C.c rfl;have D:w.cell? (aD c 0)=some (sL gr 0 rs.length (rs.length+rj.length)):=u.c rfl;go_wp2;refine wpS_of_wp ?_;go_wp2_with fail;refine(tR w ρ P A f J gr rs rj x z m q s o B).mono ?_;rintro e j ⟨rfl,ρ3,l,g,d,h⟩;have p:IsC j a #[iV 7] 2:=i.ae d (fun e=>e v.1);have n:Hid (CtP w ρ P f J gr rs a j):=⟨⟨ρ3,l,g,d.wide fun k _ e=>.inl e,h⟩,p.c rfl⟩;clear g d h;go_wp2;exact⟨rfl,_,by cases t;simp_all,.tuple #[],by simp[results,Tryz.f93,go_sem],rfl,rfl,n.out⟩
theorem aHU(a c f:Nat)(w:World)(g:IsC w a #[iV 0] 2):
  CallsD Tryz.prog 93 #[pT a 0,pT c 0,pT f 0] .returning w fun e u' w'=>
   e=.returned (.tuple #[])/\u'=.returning/\w'=w:=by
 refine callsD_of_wpS Tryz.func93 rfl fun b cs d=>?_;refine wpS_seq ?_;refine wpS_seq ?_;apply wpS_region;simp[wpOpsS,go_sem,recoverD,d,Tryz.ntmps93,Exit.thenS];refine wpS_of_wp ?_;simp only[Array.replicate_succ,Array.replicate_zero,List.push_toArray,List.setIfInBounds_toArray,List.set_cons_zero,List.set_cons_succ,List.append_toArray,List.nil_append,List.cons_append];have d1:w.cell? (aD a 0)=some (iV 0):=g.c rfl;go_wp2;refine wpS_of_wp ?_;go_wp2;exact⟨rfl,_,by cases b;simp_all,.tuple #[],by simp[results,Tryz.f93,go_sem],rfl,rfl,rfl⟩
structure Mx(X:Nat->Prop)(w:World)(ρ:Nat->Nat)(w':World)(ρ':Nat->Nat):Prop where
 ae:Frm (fun k=>ρ k≠0\/X k) w w'
 bu:∀x,x<w.heap.size->ρ' x=ρ x
structure ChP(k:Nat)(X:Nat->Prop)(L:Int)(T:fZ->(Nat->Option Obj)->Prop)(w:World)(ρ:Nat->Nat)(P:Nat)(f:fZ)(r:Option fZ)(e:Ending)(w':World):Prop where
 no:r=none->e=aCH/\∃ρ' A' g J',St w' ρ' P A' g J'/\Mx X w ρ w' ρ'/\JS k f [] g J'
 yes:∀g,r=some g->e=.returned (.tuple #[])/\∃ρ' A' J',St w' ρ' P A' g J'/\Mx X w ρ w' ρ'/\JS k f [] g J'/\Sz L g/\T g (fun x=>w'.heap[x]?)
def jE(f:fZ)(r:Option fZ):fZ×Int:=match r with
 | none=>(f,7)
 | some g=>if fR g.c g.m<2*fS g.c.length then(f,7)else(g,0)
structure AtP(X:Nat->Prop)(T:fZ->(Nat->Option Obj)->Prop)(w:World)(ρ:Nat->Nat)(P:Nat)(f:fZ)(r:Option fZ)(e:Ending)(w':World):Prop where
 e:e=.returned (iV (jE f r).2)
 ex:∃ρ' A' J',St w' ρ' P A' (jE f r).1 J'/\Frm (fun k=>ρ k≠0\/X k) w w'/\∀x,x<w.heap.size->ρ x=0->ρ' x=0
 t:(jE f r).2=0->T (jE f r).1 (fun x=>w'.heap[x]?)
theorem St.ez{w:World}{ρ:Nat->Nat}{P:Nat}{A:Adr}{f:fZ}{J:List aS}(h:St w ρ P A f J):St (w.setCell (aD P 7) (.slice none 0 0)) ρ P A f []:=by
 obtain⟨j,m,l,a,_⟩:=h;have k:Frm (fun x=>x=P) w (w.setCell (aD P 7) (.slice none 0 0)):=Frm.set (S:=fun x=>x=P) w (p:=aD P 7) rfl _;have b:∀{x r},ρ x=r->r≠1->¬x=P:=fun {x r} e c q=>c (by rw[<-e,q,a.rP]);refine⟨none,[],[],a.gen (Kp.same a k) (.inr ?_) (.inl ⟨b a.rr (by omega),rfl,rfl⟩) (.inl ⟨b a.rm (by omega),rfl⟩) rfl (.inl ⟨b a.rc (by omega),rfl⟩) rfl (.inl ⟨b a.rd (by omega),rfl,rfl⟩) (fun x d g=>.inl ⟨g,rfl,rfl,fun y i=>?_⟩) a.no a.rs a.ds,fun _=>JrL.start _ _⟩
 ·have:=a.hP.set 7 (.slice none 0 0)
  simpa [dH,aJC,adr] using this
 ·rcases i with e | e
  ·exact b e (by unfold cK;omega)
  ·exact b e (by unfold cI;omega)
theorem rJ{K L:Int}(k:Nat)(X:Nat->Prop)(T:fZ->(Nat->Option Obj)->Prop)(cf:Nat)(lb:Array Value)(w:World)(ρ:Nat->Nat)(P:Nat)(A:Adr)(f:fZ)(J0:List aS)(r:Option fZ)(h:St w ρ P A f J0)(hz:Sz K f)(hL:L<=1000000)(hk:k<=500000)(au:0<f.r.length)(kz:f.r.length<=16)
  (hX:∀x,X x->x<w.heap.size/\ρ x=0) (hT:∀g (h h':Nat->Option Obj),(∀x,x<w.heap.size->h x=h' x)->T g h->T g h')
  (eg:∀args w,(callFunc cf args).run Tryz.prog w=.ok (.enter cf args) w)
  (Bj:∀W,Frm (fun x=>x=P) w W->St W ρ P A f []->Calls Tryz.prog cf lb W (ChP k X L T W ρ P f r)):
  Calls Tryz.prog 79 #[pT P 0,.func (.func cf) #[] lb] w (AtP X T w ρ P f r):=by
 have OS:∀(fn:Fn) (first cap:Array Value) (w:World),(Instr.makeFunc fn first cap).run Tryz.prog w=.ok (.func fn first cap) w:=fun _ _ _ _=>rfl;obtain⟨l,vi⟩:=eZ (w.heap.size);obtain⟨w1,bx⟩:=eZ (w.alloc (.cells #[pT P 0] 61));obtain⟨a,vg⟩:=eZ (w1.heap.size);obtain⟨w2,de⟩:=eZ (w1.alloc (.cells #[iV 0] 2));have fe:=bAl bx;have c9:=bAl de;have d8:w1.heap.size=w.heap.size+1:=by rw[<-bx];simp
 have ju:w2.heap.size=w1.heap.size+1:=by rw[<-de];simp
 have Ky:=iNw bx vi;have M:=Ky.of (c9.block _ Ky.lt);have CV:=iNw de vg;have xq:Bl w w2:=fe.trans (c9.mono (by omega));have ay:=h.below xq;obtain⟨_,_,_,je,_⟩:=id ay;have k1:w2.cell? (aD l 0)=some (pT P 0):=M.c rfl;have k2:w2.cell? (aD P 0)=some (sL A.ra 0 f.r.length (f.r.length+A.rj.length)):=by rw[je.hP.cell];rfl
 have Vj:Tsl w2 (sL A.ra 0 f.r.length (f.r.length+A.rj.length)) f.r:=.inr ⟨A.ra,0,f.r.length+A.rj.length,f.r++A.rj,by simp,je.hr,by simp,by simp⟩;have ny:=aA (aI d8 ju);clear d8 ju;go_enter_defers Tryz.func79,Tryz.ntmps79;go_wp2_with fail;refine(aBM _ f.r w2 Vj (by omega)).mono ?_;rintro e w3 ⟨v',rfl,⟨ag,rj,rfl,lw,yf,DF⟩,y⟩;obtain⟨gr,rfl⟩:∃gr,ag=some gr:=by
  cases ag with
  | none=>have:=(yf rfl).1;rw[this]at au;simp at au
  | some g=>exact⟨g,rfl⟩
 obtain⟨Bm,LD⟩:=lw gr rfl;simp only[adr,Option.map_some];obtain⟨u,fy⟩:=eZ (w3.heap.size);obtain⟨t,ci⟩:=eZ (w3.alloc (.cells #[sL gr 0 f.r.length (f.r.length+rj.length)] 56));have Z:=bAl ci;have Jd:Bl w t:=(xq.trans (y.mono xq.size)).trans (Z.mono (lT xq.size y.size));have av:=h.below Jd;obtain⟨_,_,_,mm,_⟩:=id av;have k3:t.cell? (aD l 0)=some (pT P 0):=by
  rw[((M.of (y.block _ M.lt)).of (Z.block _ (lL M.lt y.size)):IsC t l _ _).cell];rfl
 have k4:∃v,t.cell? (aD P 7)=some v:=⟨_,by rw[mm.hP.cell];rfl⟩;obtain⟨v7,k4⟩:=k4;have k5:=mm.hP.frozen 7;obtain⟨z,tu⟩:=eZ (t.setCell (aD P 7) (.slice none 0 0));have cy:=av.ez;rw[tu]at cy;have ez:Frm (fun x=>x=P) w z:=by rw[<-tu];exact(Frm.aa Jd).trans (Frm.set (S:=fun x=>x=P) t (p:=aD P 7) rfl _)
 have SK:=Bj z ez cy;have D7:P<w.heap.size:=by obtain⟨_,_,_,q,_⟩:=id h;exact q.own P (by rw[q.rP];omega)
 have ρ0:∀x,w.heap.size<=x->ρ x=0:=fun x R=>Decidable.byContradiction fun q=>by
  obtain⟨_,_,_,q',_⟩:=id h;exact absurd (q'.own x q) (by omega)
 have G:w.heap.size<=l/\w.heap.size<=a/\w.heap.size<=gr/\w.heap.size<=u:=by
  have:=ny.out.1;have:=ny.out.2;have:=y.size;omega
 have EZ:Frm (fun x=>x=P) t z:=by rw[<-tu];exact Frm.set (S:=fun x=>x=P) t (p:=aD P 7) rfl _
 have Kz:IsC z l #[pT P 0] 61:=(((M.of (y.block _ M.lt)).of (Z.block _ (lL M.lt y.size)):IsC t l _ _).ae EZ (by omega));have Kh:IsC z a #[iV 0] 2:=(((CV.of (y.block _ CV.lt)).of (Z.block _ (lL CV.lt y.size)):IsC t a _ _).ae EZ (by omega));have Dj:IsC z gr (cY (f.r++rj)) 92:=((LD.of (Z.block _ LD.lt):IsC t gr _ _).ae EZ (by omega));have Ld:IsC z u #[sL gr 0 f.r.length (f.r.length+rj.length)] 56:=by
  have:IsC t u #[sL gr 0 f.r.length (f.r.length+rj.length)] 56:=by rw[<-ci,<-fy];exact IsC.new _ _ _
  exact this.ae EZ (by omega)
 have F:∀(b:World) (ρ6:Nat->Nat),Mx X z ρ b ρ6->IsC b l #[pT P 0] 61/\IsC b a #[iV 0] 2/\IsC b gr (cY (f.r++rj)) 92/\IsC b u #[sL gr 0 f.r.length (f.r.length+rj.length)] 56/\ρ6 l=0/\ρ6 a=0/\ρ6 gr=0/\ρ6 u=0:=fun b ρ6 m=>by
  have no:∀x,w.heap.size<=x->¬(ρ x≠0\/X x):=fun x R q=>q.elim (fun q=>q (ρ0 x R)) (fun q=>absurd (hX x q).1 (by omega));exact⟨Kz.ae m.ae (no _ G.1),Kh.ae m.ae (no _ G.2.1),Dj.ae m.ae (no _ G.2.2.1),Ld.ae m.ae (no _ G.2.2.2),by rw[m.bu _ Kz.lt,ρ0 _ G.1],by rw[m.bu _ Kh.lt,ρ0 _ G.2.1],by rw[m.bu _ Dj.lt,ρ0 _ G.2.2.1],by rw[m.bu _ Ld.lt,ρ0 _ G.2.2.2]⟩
 have GI:w.heap.size<=z.heap.size:=ez.size;have I:∀(b s:World) (ρ6:Nat->Nat) (g:fZ) (J':List aS),Mx X z ρ b ρ6->JS k f [] g J'->CtP b ρ6 P g J' gr f.r a s->∃ρ' A' J',St s ρ' P A' f J'/\Frm (fun k=>ρ k≠0\/X k) w s/\∀x,x<w.heap.size->ρ x=0->ρ' x=0:=fun b s ρ6 g J' m j c=>by
  obtain⟨⟨ρ7,A7,c1,c2,c3⟩,_⟩:=c;rw[JI.c4 (j.ji f (JI.start f))]at c1;refine⟨ρ7,A7,_,c1,?_,fun x R h0=>Decidable.byContradiction fun q=>?_⟩
  ·refine((ez.wide (S':=fun k=>ρ k≠0\/X k) fun x _ e=>.inl (by rw[e];obtain⟨_,_,_,q,_⟩:=id h;rw[q.rP];omega)).next m.ae fun x _ q=>q).next c2 fun x R q=>?_
   rcases q with q | q
   ·exact .inl (by rwa [m.bu x (by omega)]at q)
   ·exact absurd q (by omega)
  ·exact c3 x (by omega) q (by rw[m.bu x (by omega),h0])
 have HK:=aA F;have HU:=aA I;clear F I Kz Kh Dj Ld;go_wp2_with fail;clear EZ ay je av mm cy k1 k2 k3 k4 k5 bx de ci tu fe c9 Ky M CV xq Vj y lw yf LD Z Jd Bj ny;refine SK.mono ?_;rintro e b hC;cases r with
 | none=>
  obtain⟨rfl,ρ6,d,g,C,s6,H,U⟩:=hC.no rfl;obtain⟨Y,b2,b3,b4,z1,z2,z3,z4⟩:=HK.out _ _ H;have Q:=U.ji f (JI.start f);have ah:C.length<=k:=by have:=U.len;simpa using this
  refine leaves_cons (f:=93) (args:=#[pT a 0,pT l 0,pT u 0]) (by simp) (by simp[go_sem]) ?_;refine(aBL a l u [] b ρ6 P d g C gr f.r rj s6 (by omega) (by rw[Q.len];exact hz.al) (fun r hr=>by rw[Q.len];exact Q.lt r hr) b3 z3 DF b2 Y b4 ⟨z2,z1,z4⟩).mono ?_;rintro e u' s ⟨rfl,rfl,U4⟩;have jy:=U4.cd;simp[Leaves,settle,results,Tryz.results79,go_sem,jy];exact⟨rfl,HU.out _ _ _ _ _ H U U4,fun q=>by simp[jE]at q⟩
 | some g=>
  obtain⟨rfl,ρ6,d,C,s6,H,U,N,t6⟩:=hC.yes g rfl;obtain⟨Y,b2,b3,b4,z1,z2,z3,z4⟩:=HK.out _ _ H;have Q:=U.ji f (JI.start f);have ah:C.length<=k:=by have:=U.len;simpa using this
  obtain⟨_,_,_,V,_⟩:=id s6;have n1:Nts b (sL d.c 0 g.c.length g.c.length) g.c:=by
   have:=mB (ys:=[]) (zs:=g.c) (by simpa using V.hc) fun i=>⟨(N.cb i).1,Int.le_trans (N.cb i).2 (by omega)⟩
   simpa using this
  have n2:Nts b (sL d.d 0 g.m.length (g.m.length+d.dj.length)) g.m:=xK V.hd fun i=>⟨(N.mb i).1,Int.le_trans (N.mb i).2 (by omega)⟩;have k1:b.cell? (aD l 0)=some (pT P 0):=Y.c rfl;have k2:b.cell? (aD P 4)=some (sL d.c 0 g.c.length g.c.length):=by rw[V.hP.cell];rfl
  have k3:b.cell? (aD P 5)=some (sL d.d 0 g.m.length (g.m.length+d.dj.length)):=by rw[V.hP.cell];rfl
  have BN:Calls Tryz.prog 95 #[sL d.c 0 g.c.length g.c.length,sL d.d 0 g.m.length (g.m.length+d.dj.length)] b.drew fun e W'=>e=.returned (iV (fR g.c g.m))/\Bl b W':=by
   refine((callsIn_wide (n:=3)).1 (wQ Fence.wide 3 (fun _=>trivial) rfl (nR _) _ _ _ _ g.c g.m N.m N.al N.n8 b.drew (n1.below (bQ _ _).drew) (n2.below (bQ _ _).drew))).mono ?_;rintro e w' ⟨h1,h2⟩;exact⟨h1,(bQ _ b).drew.trans h2⟩
  have HC:=aA BN;have HB:=aA (fun w' (hb:Bl b w')=>aI ((hb.cell (p:=aD l 0) Y.lt).trans k1) (aI ((hb.cell (p:=aD P 4) V.hP.lt).trans k2) ((hb.cell (p:=aD P 5) V.hP.lt).trans k3)));go_wp2_with fail;go_region_held3 (fun w'=>w'.cell? (aD l 0)=some (pT P 0)/\w'.cell? (aD P 4)=some (sL d.c 0 g.c.length g.c.length)/\w'.cell? (aD P 5)=some (sL d.d 0 g.m.length (g.m.length+d.dj.length))) (first | assumption | go_keep)
   ((first
    | (go_at_call 95;refine HC.out.mono ?_;rintro e s ⟨rfl,J⟩;have pf:=HB.out _ J)
    | (go_at_call 96;refine(qQ _ _).mono ?_;rintro e B ⟨rfl,rfl⟩)))
  clear pf;obtain⟨rv,Oj⟩:=eZ (fS (g.c.length:Int));have Zp:0<=rv/\rv<=30:=by have:=N.al;rw[<-Oj];unfold fS;split<;>omega
  have yt:IntKind.i64.wrap (2*rv)=2*rv:=IntWalk.i64_in _ ⟨by omega,by omega⟩;obtain⟨fc,uo⟩:=eZ (fR g.c g.m);rw[Oj,uo,yt];have Uh:=aA Oj;have UV:=aA uo;have s7:=s6.below J;have b17:=Y.of (J.block _ Y.lt);have o:=b2.of (J.block _ b2.lt);have b37:IsC s gr (cY (f.r++rj)) 92:=b3.of (J.block _ b3.lt);have b47:=b4.of (J.block _ b4.lt);have cc:s.cell? (aD a 0)=some (iV 0):=o.c rfl;have cz:=o.frozen 0;clear Oj uo yt HC HB n1 n2 k1 k2 k3;by_cases ai:fc<2*rv
  ·obtain⟨B,Hv⟩:=eZ (s.setCell (aD a 0) (iV 7))
   have E:Frm (fun x=>x=a) s B:=by rw[<-Hv];exact Frm.set (S:=fun x=>x=a) s (p:=aD a 0) rfl _
   have D:IsC B a #[iV 7] 2:=by
    have:=o.set 0 (iV 7)
    rw[Hv]at this;exact this
   have b18:=b17.ae E (fun e=>IsC.ne (e▸b17) o (by decide) rfl);have b38:=b37.ae E (fun e=>IsC.ne (e▸b37) o (by decide) rfl);have b48:=b47.ae E (fun e=>IsC.ne (e▸b47) o (by decide) rfl);have s8:St B ρ6 P d g C:=s7.ae (E.wide fun x _ e=>by rw[e];exact z2);go_wp2;refine leaves_cons (f:=93) (args:=#[pT a 0,pT l 0,pT u 0]) (by simp) (by simp[go_sem]) ?_;refine(aBK a l u B ρ6 P d g C gr f.r rj s8 (by omega) (by rw[Q.len];exact hz.al) (fun r hr=>by rw[Q.len];exact Q.lt r hr) b38 z3 DF D b18 b48 ⟨z2,z1,z4⟩).mono ?_;rintro e u' w9 ⟨rfl,rfl,U5⟩;have jy:=U5.cd;have O:jE f (some g)=(f,7):=by show(if fR g.c g.m<2*fS g.c.length then(f,(7:Int))else(g,0))=_;rw[UV.out,Uh.out,if_pos ai]
   have Xq:CtP b ρ6 P g C gr f.r a w9:=by
    obtain⟨⟨ρ9,A9,c1,c2,c3⟩,c4⟩:=U5;exact⟨⟨ρ9,A9,c1,((Frm.aa J).trans (E.wide fun x _ e=>.inr e)).trans c2,c3⟩,c4⟩
   simp[Leaves,settle,results,Tryz.results79,go_sem,jy]
   exact⟨by rw[O],by rw[O];exact HU.out _ _ _ _ _ H U Xq,fun q=>by simp[O]at q⟩
  ·obtain⟨B,Hv⟩:=eZ (s.setCell (aD a 0) (iV 0))
   have E:Frm (fun x=>x=a) s B:=by rw[<-Hv];exact Frm.set (S:=fun x=>x=a) s (p:=aD a 0) rfl _
   have D:IsC B a #[iV 0] 2:=by
    have:=o.set 0 (iV 0)
    rw[Hv]at this;exact this
   have s8:St B ρ6 P d g C:=s7.ae (E.wide fun x _ e=>by rw[e];exact z2);go_wp2;refine leaves_cons (f:=93) (args:=#[pT a 0,pT l 0,pT u 0]) (by simp) (by simp[go_sem]) ?_;refine(aHU a l u B D).mono ?_;rintro e u' w9 ⟨rfl,rfl,Iz⟩;subst Iz;have jy:w9.cell? (aD a 0)=some (iV 0):=D.c rfl;have O:jE f (some g)=(g,0):=by show(if fR g.c g.m<2*fS g.c.length then(f,(7:Int))else(g,0))=_;rw[UV.out,Uh.out,if_neg (by omega)]
   have Iv:w.heap.size<=b.heap.size:=lT GI H.ae.size;have NC:Frm (fun x=>x=a) b w9:=(Frm.aa J).trans E;simp[Leaves,settle,results,Tryz.results79,go_sem,jy];refine⟨by rw[O],?_,fun _=>?_⟩
   ·rw[O]
    refine⟨ρ6,d,C,s8,?_,fun x R h0=>by rw[H.bu x (by omega),h0]⟩;refine((ez.wide (S':=fun k=>ρ k≠0\/X k) fun x _ e=>.inl (by rw[e];obtain⟨_,_,_,q,_⟩:=id h;rw[q.rP];omega)).next H.ae fun x _ q=>q).next NC fun x R q=>absurd q (by omega)
   ·rw[O]
    exact hT g _ _ (fun x R=>(NC.block x (by omega) (by omega)).symm) t6
