import Derived.Defers
import Derived.Recover
import Derived.Test.YtmpagpeenjddgaaGreatHq21
set_option maxHeartbeats 9999999
set_option maxRecDepth 99999
set_option linter.all false
namespace Go.Proofs.YtmpagpeenjddgaaGreat
open Go.RowKit Go.Shelf Fo
attribute [local go_sem] Oper.semAt_some
section
variable {w w' : World} {ρ : Nat -> Nat} {P : Nat} {A : Adr} {g : fZ} {ja : Option Nat} {jp jj : List JE} {J : List aR}
theorem xL{k r:Nat}(h:isN r):¬isK k r:=fun e=>h.2 (aOL e)
theorem St.ed{k:Nat}(h:St w ρ P A g fQ)(d:JrK w ρ ja jp jj J k){b:Nat}(f:b<g.c.length)(v:Int):St (w.setCell ⟨A.c,b,none⟩ (.int .i64 v)) ρ P A (Fo.setC g b v) fQ/\JrK (w.setCell ⟨A.c,b,none⟩ (.int .i64 v)) ρ ja jp jj J k:=by
 have c:ρ A.c=4/\∀x,ρ x≠0->x<w.heap.size:=by obtain⟨_,_,_,a,_⟩:=h;exact⟨a.rc,a.own⟩
 exact⟨(h.setC f v).1,d.ae (S:=fun x=>x=A.c) (nR _) (Frm.set (S:=fun x=>x=A.c) w (p:=⟨A.c,b,none⟩) rfl _) c.2 (fun x e=>by rw[e,c.1];exact xL aDY) (fun _ _=>rfl)⟩
theorem St.ee{i:Nat}(h:St w ρ P A g fQ)(d:JrK w ρ ja jp jj J (i+1)){b:Nat}(f:dU w' A.m (upd A.φ b none))(hF:Frm (fun x=>x=A.m) w w'):St w' ρ P (gW A b) (noN g b) fQ/\JrK w' ρ ja jp jj J i:=by
 have c:ρ A.m=3/\∀x,ρ x≠0->x<w.heap.size:=by obtain⟨_,_,_,a,_⟩:=h;exact⟨a.rm,a.own⟩
 exact⟨(h.del f hF).1,d.ae (Nat.le_succ _) hF c.2 (fun x e=>by rw[e,c.1];exact xL vL) (fun _ _=>rfl)⟩
theorem St.ef{i:Nat}(h:St w ρ P A g fQ)(p:JrK w ρ ja jp jj J (i+1)){b q:Nat}{d:Nd}{a:Option Nat}{junk:List E3}(m:ρ q=kG i)(l:∀x,a=some x->ρ x=kH i)(s:aM w q d a junk)(r:dU w' A.m (upd A.φ b (some q)))(hF:Frm (fun x=>x=A.m) w w'):
  ∃ρ',St w' ρ' P (dA A b q a) (setN g b d) fQ/\JrK w' ρ' ja jp jj J i/\∀x,ρ' x≠0->ρ x≠0:=by
 have n:ρ A.m=3/\∀x,ρ x≠0->x<w.heap.size:=by obtain⟨_,_,_,f,_⟩:=h;exact⟨f.rm,f.own⟩
 have f:=h.dt (q:=q) (a:=a) (by rw[m];exact rA i) (fun x e=>by rw[l x e];exact rB i);obtain⟨o,-⟩:=f.put s (by simp[aCK]) (fun x e=>by simp[aCK,e]) r hF;refine⟨_,o,p.ae (Nat.le_succ _) hF n.2 (fun x e=>by rw[e,n.1];exact xL vL) (fun x c=>?_),fun x c e0=>?_⟩
 ·have j:x≠q:=fun e=>by rw[e,m]at c;exact aNP (Nat.lt_irrefl i) c
  have k:a≠some x:=fun e=>by rw[l x e]at c;exact aNQ (Nat.lt_irrefl i) c
  simp[uY,aCK,j,k]
 ·have j:x≠q:=fun e=>by rw[e,m]at e0;unfold kG at e0;omega
  have k:a≠some x:=fun e=>by rw[l x e]at e0;unfold kH at e0;omega
  simp[uY,aCK,j,k,e0]at c
end
structure RsP(w:World)(ρ:Nat->Nat)(P:Nat)(f:fZ)(J:List aR)(gr:Nat)(rs:List (Int×Int))(e:Ending)(w':World):Prop where
 e:e=.returned (.tuple #[])
 ex:∃ρ' A',St w' ρ' P A' {eF f J with r:=rs} fQ/\Frm (fun k=>ρ k≠0) w w'/\∀x,x≠gr->ρ' x≠0->ρ x≠0
theorem aHQ(f:fZ)(K:List aR):(eF f K).c.length=f.c.length:=(pH f K).2.2.2.2.2
theorem aCJ(F:Fence)(n:Nat)(hF:nI F Tryz.prog)(dq:F.round=none)(hn:5<=n)
  (w:World) (ρ:Nat->Nat) (P:Nat) (A:Adr) (f:fZ) (J:List aR) (gr cr:Nat) (rs rj:List (Int×Int)) (hS:St w ρ P A f J) (lm:J.length<=900000) (CM:f.c.length<=512) (ak:∀r∈J,r.1<f.c.length) (bo:IsC w gr (cZ (rs++rj)) 92) (G7:ρ gr=0) (H4:cr=rs.length+rj.length) (mo:rs.length+rj.length<=maxLen):
  CallsIn F n Tryz.prog 94 #[.pointer (some ⟨P,0,none⟩),.slice (some ⟨gr,0,none⟩) rs.length cr] w (RsP w ρ P f J gr rs):=by
 have pj:1<=n:=by omega
 subst H4;obtain⟨C,t,jj,Z,Lc⟩:=id hS;have hJ:=Lc (by omega);have Dp:=Z.hP.lt;refine callsIn_of_wp_marks Tryz.func94 rfl (hF.fn _) ?_ dq;simp only[Tryz.ntmps94,List.size_toArray,List.length_cons,List.length_nil,Nat.reduceAdd,Nat.reduceSub,Array.replicate_succ,Array.replicate_zero,List.push_toArray,List.append_toArray,List.nil_append,List.cons_append];obtain⟨B0,T⟩:=eZ (w.heap.size);obtain⟨w1,ci⟩:=eZ (w.alloc (.cells #[.pointer (some ⟨P,0,none⟩)] 61));have JB:=bAl ci;have NI:Boxed w1 B0 61 (.pointer (some ⟨P,0,none⟩)):=by rw[<-ci,<-T];exact Boxed.new _ _ _
 have k1:=NI.cell;have cg:=hS.below JB;have m7:w1.cell? ⟨P,7,none⟩=some (.slice (adr C) t.length (t.length+jj.length)):=by
  rw[(Z.hP.of (JB.block P Dp):IsC w1 P _ _).cell];rfl
 have qg:=hF.fn;gi_wp2_with (gi_at_call 112;refine(yK F (n-1) (hF.fn _) dq _ _ _ _).mono ?_;rintro e w' ⟨rfl,rfl⟩);obtain⟨B4,O⟩:=eZ (w1.heap.size);obtain⟨E,cx⟩:=eZ (w1.alloc (.cells #[.slice (adr C) t.length (t.length+jj.length)] 65));rw[cx,O];have MV:=bAl cx;have Jy:=iNw cx O;have U:w1.heap.size=w.heap.size+1:=by rw[<-ci];simp
 have vd:E.heap.size=w1.heap.size+1:=by rw[<-cx];simp
 have yl:Bl w E:=JB.trans (MV.mono (by omega));have lh:Boxed E B0 61 (.pointer (some ⟨P,0,none⟩)):=(MV.block _ (by omega)).trans NI;have ax:=hS.below yl;have PE:JrK E ρ C t jj J J.length:=(hJ.ae (Frm.aa (S:=fun _=>False) yl) Z.own (fun _ e=>e.elim) (fun _ _ _=>rfl)).eA;have PM:A.c<w.heap.size:=Z.hc.lt;have VH:A.m<w.heap.size:=Z.hm.lt;have IE:∀g,C=some g->g<w.heap.size/\g≠A.c/\g≠A.m:=fun g e=>by
  obtain⟨B,Q⟩:=hJ.arr g e;exact⟨B.lt,fun q=>by rw[q,Z.rc]at Q;omega,fun q=>by rw[q,Z.rm]at Q;omega⟩
 have eX:(jB t).length=J.length:=by rw[pG];exact hJ.len
 clear ci cx k1 m7;have JV:OwnFrom E.heap.size (fun(c:List (Array Value)) W=>(∃ρ' A',St W ρ' P A' (eF f (J.drop (J.length-c.length))) fQ/\JrK W ρ' C t jj J (J.length-c.length)/\A'.c=A.c/\A'.m=A.m/\(∀x,ρ' x≠0->ρ x≠0))/\Frm (fun k=>k=A.c\/k=A.m) E W/\Boxed W B0 61 (.pointer (some ⟨P,0,none⟩))):=by
  refine fun c X Y row hs hg ju=>?_;obtain⟨⟨ρ',A',B,Q,h3,R,h5⟩,h6,h7⟩:=hs;have Ar:∀x,row=some x->E.heap.size<=x:=fun x e=>(ju x e).1;obtain⟨_,_,_,Qy,_⟩:=id B;refine⟨⟨ρ',A',B.own hg fun x e=>⟨by have:=Ar x e;rw[R];omega,(ju x e).2⟩,⟨fun g e=>⟨(Q.arr g e).1.own hg fun r e=>(ju r e).2,(Q.arr g e).2⟩,Q.nil,Q.len,fun i hi=>?_⟩,h3,R,h5⟩,h6.own hg Ar,h7.kept hg fun e=>?_⟩
  ·obtain⟨a1,a2,a3⟩:=Q.row i hi
   refine⟨a1,a2,?_⟩;cases e:(J.getD i jr0).2.2 with
   | none=>rw[e]at a3;exact a3
   | some d=>
    rw[e]at a3;obtain⟨q,a,junk,I,K,L,m4⟩:=a3;exact⟨q,a,junk,I,K,L,m4.own hg fun r e=>(ju r e).2⟩
  ·have:=Ar _ e.symm;omega
 refine uJ dq pj (gf:=132) (lb:=#[.pointer (some ⟨B4,0,none⟩)]) (vs:=jB t) (Kp:=KpB B4 C) (w0:=E) rfl (qg _) (enters_of Tryz.func132 (by kernel_rfl) rfl)
  (fun l Jv W hW Wv hY h0=>wN F (n-1) (qg _) dq (by omega) l B4 _ C t jj (by rw[hJ.len];omega) Jv _ Wv hY W (Jy.of (hW.block _ Jy.lt)) (fun g e=>(PE.arr g e).1.of (hW.block g (PE.arr g e).1.lt)) (fun e=>(hJ.nil e).1) h0)
  KpB.trans (KpB.put Jy.lt (fun g e=>by have:=(IE g e).1;omega)) (bQ _ _) (fun x hx=>?_)
  (fun c W=>(∃ρ' A',St W ρ' P A' (eF f (J.drop (J.length-c.length))) fQ/\JrK W ρ' C t jj J (J.length-c.length)/\A'.c=A.c/\A'.m=A.m/\(∀x,ρ' x≠0->ρ x≠0))/\Frm (fun k=>k=A.c\/k=A.m) E W/\Boxed W B0 61 (.pointer (some ⟨P,0,none⟩)))
  ?_ ⟨⟨ρ,A,by simpa [eF] using ax.dead,by simpa using PE,rfl,rfl,fun _ e=>e⟩,Frm.refl _ _,lh⟩ ?_ ?_
 ·unfold jB at hx
  obtain⟨i,_,rfl⟩:=List.mem_map.1 hx;rfl
 ·exact JV
 ·intro l c x W hi me
  have DX:c.length<t.length:=by
   have:=me.length_le
   rw[pG]at this;simp at this;omega
  have De:x=#[.int .i64 ((t.length-1-c.length:Nat):Int),aJU (t.getD (t.length-1-c.length) j0)]:=by
   have B:=yJ t DX;obtain⟨post,K9⟩:=me;rw[<-K9,List.append_assoc,List.getElem?_append_right (nR _)]at B;simp at B;exact B
  obtain⟨i,Hi⟩:=exH (t.length-1-c.length);have U5:i<J.length:=by rw[<-hJ.len,Hi.out];omega
  have gh:J.length-c.length=i+1:=by rw[<-hJ.len,Hi.out];omega
  have wu:J.length -(c++[x]).length=i:=by rw[lP,List.length_singleton,<-hJ.len,Hi.out];omega
  rw[<-Hi.out]at De;obtain⟨⟨xb,xc,xp⟩,pa⟩:∃r,t.getD i j0=r:=⟨_,rfl⟩;obtain⟨⟨b,j,nd⟩,JO⟩:∃r,J.getD i jr0=r:=⟨_,rfl⟩;have ki:(b,j,nd)∈J:=by
   rw[<-JO,gD,gE U5];exact List.getElem_mem _
  have NH:b<f.c.length:=ak _ ki;obtain⟨⟨ρ0,A0,g1,g2,g3,g4,g5⟩,g6,g7⟩:=id hi;rw[gh]at g2;obtain⟨r1,r2,-⟩:=g2.row i (by omega);rw[pa,JO]at r1 r2;simp only at r1 r2;subst r1;have r2':=r2.symm;subst r2';clear r2;obtain⟨pv,Dv⟩:∃pv,eV xp=.pointer pv:=⟨_,rfl⟩;rw[pa]at De;unfold aJU at De;simp only at De;rw[Dv]at De;subst De;obtain⟨W',Ji⟩:=eZ (W.alloc (.cells #[.int .i64 b,.int .i64 j,.pointer pv] 178));obtain⟨V,hV⟩:=eZ (W.heap.size);have Gv:E.heap.size<=V:=by rw[<-hV];exact g6.size
  have Ex:W.grownBy W' none:=by rw[<-Ji];exact World.grownBy_alloc _ _ none
  have Fd:IsC W' V #[.int .i64 b,.int .i64 j,.pointer pv] 178:=by rw[<-Ji,<-hV];exact IsC.new _ _ _
  have ap:=JV _ _ _ none hi Ex (fun r e=>by cases e);have H:KeepsFrom E.heap.size W W':=⟨Ex.size,fun k o _ hk _=>(Ex.block k (Array.getElem?_eq_some_iff.1 hk).1 (by simp)).trans hk⟩;have M:KpB B4 C W W':=⟨Ex.size,Ex.block _ (by omega) (by simp),fun g e=>Ex.block g (by have:=(IE g e).1;have:=yl.size;omega) (by simp)⟩;have ni:=aA (aI U (aI vd (aI O T)));have HX:=aA (aI H (aI M (aI ap Fd)));have HR:=aA (aI pa (aI JO (aI Dv (aI gh wu))));clear H M ap Fd hi g1 g2 g3 g4 g5 g6 g7 Ex pa JO Dv gh wu U vd O T;gi_wp2;obtain⟨H,M,ap,Fd⟩:=HX.out;refine⟨H,M,fun _ m=>(fun(c:List (Array Value)) W=>(∃ρ' A',St W ρ' P A' (eF f (J.drop (J.length-c.length))) fQ/\JrK W ρ' C t jj J (J.length-c.length)/\A'.c=A.c/\A'.m=A.m/\(∀x,ρ' x≠0->ρ x≠0))/\Frm (fun k=>k=A.c\/k=A.m) E W/\Boxed W B0 61 (.pointer (some ⟨P,0,none⟩))) c m/\IsC m V #[.int .i64 b,.int .i64 j,.pointer pv] 178,fun _ X Y row hs hg ju=>⟨JV _ _ _ row hs.1 hg ju,hs.2.own hg fun r e=>(ju r e).2⟩,⟨ap,Fd⟩,?_⟩;clear H M ap Fd HX;rintro m ⟨⟨⟨ρ1,A1,B,Q,h3,R,h5⟩,h6,h7⟩,ub⟩;obtain⟨pa,JO,Dv,gh,wu⟩:=HR.out;rw[gh]at B Q;obtain⟨_,_,r3⟩:=Q.row i (by omega);rw[pa,JO]at r3;simp only at r3;obtain⟨_,_,_,ix,_⟩:=id B;have DO:(eF f (J.drop (i+1))).c.length=f.c.length:=aHQ _ _;have nc4:m.cell? ⟨P,4,none⟩=some (.slice (some ⟨A.c,0,none⟩) f.c.length f.c.length):=by
   rw[ix.hP.cell,<-h3,<-DO];rfl
  have o9:=h7.cell;have v0:m.cell? ⟨V,0,none⟩=some (.int .i64 b):=ub.c rfl;have v1:m.cell? ⟨V,1,none⟩=some (.int .i64 j):=ub.c rfl;obtain⟨nc,T2⟩:=exH (f.c.length);rw[<-T2.out]at nc4;have uz:m.drew.cell? ⟨B0,0,none⟩=some (.pointer (some ⟨P,0,none⟩))/\m.drew.cell? ⟨P,4,none⟩=some (.slice (some ⟨A.c,0,none⟩) nc nc)/\m.drew.cell? ⟨V,0,none⟩=some (.int .i64 b)/\m.drew.cell? ⟨V,1,none⟩=some (.int .i64 j):=⟨o9,nc4,v0,v1⟩;have Cq:(b:Int) <(nc:Int):=by rw[T2.out];omega
  have kq:m.cell? ⟨A.c,b,none⟩=some (.int .i64 (cu (eF f (J.drop (i+1))) b)):=by rw[<-h3];exact ix.count (by rw[DO];exact NH)
  have H9:m.frozen? ⟨A.c,b,none⟩=false:=by rw[<-h3];exact ix.hc.frozen b
  obtain⟨u1,u2⟩:=B.ed Q (b:=b) (by rw[DO];exact NH) j;rw[h3]at u1 u2;gi_wp2;refine gN (fun W=>W.cell? ⟨B0,0,none⟩=some (.pointer (some ⟨P,0,none⟩))/\W.cell? ⟨P,4,none⟩=some (.slice (some ⟨A.c,0,none⟩) nc nc)/\W.cell? ⟨V,0,none⟩=some (.int .i64 b)/\W.cell? ⟨V,1,none⟩=some (.int .i64 j)) 9 (hF.inRound l) (fun _=>by omega) (by kernel_rfl) ?_ (by kernel_rfl) ?_
  ·rintro⟨a,w,h⟩;exact h
  refine tJ 0 13 (.pointer (some ⟨P,0,none⟩)) rfl uz ?_;refine tJ 1 14 (.pointer (some ⟨P,0,none⟩)) rfl uz ?_;refine tJ 2 15 (.pointer (some ⟨P,4,none⟩)) rfl uz ?_;refine tJ 3 16 (.slice (some ⟨A.c,0,none⟩) nc nc) rfl uz ?_;refine tJ 4 17 (.pointer (some ⟨V,0,none⟩)) rfl uz ?_;refine tJ 5 18 (.int .i64 b) rfl uz ?_;refine tJ 6 19 (.pointer (some ⟨V,1,none⟩)) rfl uz ?_;refine tJ 7 20 (.int .i64 j) rfl uz ?_;simp only[Act.put,sB,sZ,sS];refine oE 8 rfl fun K2 ae=>?_;go_simp;refine ae _ _ (fun _=>uz) ?_;clear ae K2;refine oE 9 rfl fun K2 ae=>?_;go_simp;refine ae _ _ (fun q=>absurd rfl q) ?_;clear ae K2;refine aS (by kernel_rfl) ?_ _;obtain⟨U,vd,O,T⟩:=ni.out;have br:Frm (fun k=>k=A.c) m (m.setCell ⟨A.c,b,none⟩ (.int .i64 j)).drew:=(Frm.set (S:=fun k=>k=A.c) m (p:=⟨A.c,b,none⟩) rfl _).trans (Frm.drew _ _);have Ay:(m.setCell ⟨A.c,b,none⟩ (.int .i64 j)).drew.heap.size=m.heap.size:=cT (g:=A.c) [_] m b;have u3:=u1.below (bQ _ _).drew;have u4:JrK (m.setCell ⟨A.c,b,none⟩ (.int .i64 j)).drew ρ1 C t jj J (i+1):=by
   obtain⟨_,_,_,XF,_⟩:=id u1;exact u2.ae (S:=fun _=>False) (nR _) (Frm.drew _ _) XF.own (fun _ e=>e.elim) (fun _ _=>rfl)
  have XJ:V≠A.c:=by have:=yl.size;omega
  have Fc:IsC (m.setCell ⟨A.c,b,none⟩ (.int .i64 j)).drew V #[.int .i64 b,.int .i64 j,.pointer pv] 178:=ub.ae br XJ;have ld:Boxed (m.setCell ⟨A.c,b,none⟩ (.int .i64 j)).drew B0 61 (.pointer (some ⟨P,0,none⟩)):=(br.block _ h7.lt (by omega)).trans h7;have MK:=aA (aI U (aI vd (aI O T)));clear uz u1 u2 kq H9 nc4 o9 v0 v1 U vd O T;generalize (m.setCell ⟨A.c,b,none⟩ (.int .i64 j)).drew=u at *;have o9:=ld.cell;have v0:u.cell? ⟨V,0,none⟩=some (.int .i64 b):=Fc.c rfl;have v2:u.cell? ⟨V,2,none⟩=some (.pointer pv):=Fc.c rfl;obtain⟨_,_,_,mz,_⟩:=id u3;have p3:u.cell? ⟨P,3,none⟩=some (.map (some A.m)):=by rw[<-R];exact mz.cells.m3
  have EU:=u3.below (bQ u.heap.size u).drew;have u4d:JrK u.drew ρ1 C t jj J (i+1):=u4.ae (S:=fun _=>False) (nR _) (Frm.drew _ _) mz.own (fun _ e=>e.elim) (fun _ _=>rfl);obtain⟨_,_,_,GQ,_⟩:=id EU;have re:=aEW (J:=J) f U5;rw[JO]at re;cases nd with
  | none=>
   have ZA:xp=none:=r3;have IR:pv=none:=by rw[ZA]at Dv;simp[eV]at Dv;exact Dv.symm
   subst IR;obtain⟨y,Fq,oa,G⟩:=GQ.hm.del b (by omega) 0;rw[R]at Fq;obtain⟨y1,y2⟩:=EU.ee u4d oa G;have HN:Hid ((∃ρ' A',St y ρ' P A' (eF f (J.drop i)) fQ/\JrK y ρ' C t jj J i/\A'.c=A.c/\A'.m=A.m/\(∀x,ρ' x≠0->ρ x≠0))):=⟨ρ1,gW A1 b,by rw[re];exact y1,y2,h3,R,h5⟩;have v:u.drew.cell? ⟨B0,0,none⟩=some (.pointer (some ⟨P,0,none⟩))/\u.drew.cell? ⟨P,3,none⟩=some (.map (some A.m))/\u.drew.cell? ⟨V,0,none⟩=some (.int .i64 b):=⟨o9,p3,v0⟩;clear y1 y2 re r3 oa u3 u4 EU u4d mz GQ;have um:=aA G;clear G;gi_wp2;refine gN (fun W=>W.cell? ⟨B0,0,none⟩=some (.pointer (some ⟨P,0,none⟩))/\W.cell? ⟨P,3,none⟩=some (.map (some A.m))/\W.cell? ⟨V,0,none⟩=some (.int .i64 b)) 6 (hF.inRound l) (fun _=>by omega) (by kernel_rfl) ?_ (by kernel_rfl) ?_
   ·rintro⟨a,w,h⟩;exact h
   ·skip
    refine aV (i:=0) 25 (.pointer (some ⟨P,0,none⟩)) (by kernel_rfl) (by kernel_rfl) rfl (by kernel_rfl) (by kernel_rfl) (by kernel_rfl) (fun _ _ _ h=>h) rfl rfl v (fun w' s=>by obtain⟨I,K,L⟩:=s;go_simp;try rfl) ?_;simp only[Act.put,sB,sZ,sS];refine aV (i:=1) 26 (.pointer (some ⟨P,0,none⟩)) (by kernel_rfl) (by kernel_rfl) rfl (by kernel_rfl) (by kernel_rfl) (by kernel_rfl) (fun _ _ _ h=>h) rfl rfl v (fun w' s=>by obtain⟨I,K,L⟩:=s;go_simp;try rfl) ?_;simp only[Act.put,sB,sZ,sS];refine aV (i:=2) 27 (.pointer (some ⟨P,3,none⟩)) (by kernel_rfl) (by kernel_rfl) rfl (by kernel_rfl) (by kernel_rfl) (by kernel_rfl) (fun _ _ _ h=>h) rfl rfl v (fun w' s=>by obtain⟨I,K,L⟩:=s;go_simp;try rfl) ?_;simp only[Act.put,sB,sZ,sS];refine aV (i:=3) 28 (.map (some A.m)) (by kernel_rfl) (by kernel_rfl) rfl (by kernel_rfl) (by kernel_rfl) (by kernel_rfl) (fun _ _ _ h=>h) rfl rfl v (fun w' s=>by obtain⟨I,K,L⟩:=s;go_simp;try rfl) ?_;simp only[Act.put,sB,sZ,sS];refine aV (i:=4) 29 (.pointer (some ⟨V,0,none⟩)) (by kernel_rfl) (by kernel_rfl) rfl (by kernel_rfl) (by kernel_rfl) (by kernel_rfl) (fun _ _ _ h=>h) rfl rfl v (fun w' s=>by obtain⟨I,K,L⟩:=s;go_simp;try rfl) ?_;simp only[Act.put,sB,sZ,sS];refine aV (i:=5) 30 (.int .i64 b) (by kernel_rfl) (by kernel_rfl) rfl (by kernel_rfl) (by kernel_rfl) (by kernel_rfl) (fun _ _ _ h=>h) rfl rfl v (fun w' s=>by obtain⟨I,K,L⟩:=s;go_simp;try rfl) ?_;simp only[Act.put,sB,sZ,sS];refine oE 6 rfl fun K2 ae=>?_;go_simp;refine ae _ _ (fun q=>absurd rfl q) ?_;clear ae K2;refine aS (by kernel_rfl) ?_ _;obtain⟨U,vd,O,T⟩:=MK.out;have G:=um.out;have it:∀k,k<m.heap.size->k≠A.c->k≠A.m->y.heap[k]?=m.heap[k]?:=fun k hk e1 e2=>(G.block k (by show k<u.heap.size;rw[Ay];exact hk) (by rw[R];exact e2)).trans (br.block k hk e1);have N:Frm (fun k=>k=A.c\/k=A.m) E y:=((h6.trans (br.wide fun k _ e=>.inl e)).trans (Frm.drew _ _)).trans (G.wide fun k _ e=>.inr (by rw[<-R];exact e));have Dd:m.heap.size<=y.heap.size:=by rw[<-Ay];exact G.size
    have YO:=yl.size;have TC:=h6.size;have ef:Boxed y B0 61 (.pointer (some ⟨P,0,none⟩)):=(it _ h7.lt (by omega) (by omega)).trans h7;have H:KeepsFrom E.heap.size m y:=⟨Dd,fun k o hk AL _=>(it k (Array.getElem?_eq_some_iff.1 AL).1 (by omega) (by omega)).trans AL⟩;have M:KpB B4 C m y:=⟨Dd,it _ (by omega) (by omega) (by omega),fun g e=>it g (by have:=(IE g e).1;omega) (IE g e).2.1 (IE g e).2.2⟩;have HF:=aA (aI H (aI M (aI N ef)));clear H M N ef it U vd O T v;gi_wp2;obtain⟨H,M,N,ef⟩:=HF.out;obtain⟨ρ',A',z⟩:=HN.out;exact⟨H,M,⟨ρ',A',by rw[HR.out.2.2.2.2];exact z⟩,N,ef⟩
  | some d=>
   obtain⟨qj,aj,junkj,z1,z2,z3,z4⟩:=r3;have IR:pv=some ⟨qj,0,none⟩:=by rw[z1]at Dv;simp[eV]at Dv;exact Dv.symm
   subst IR;have Sq:qj≠A.c:=fun e=>by have e1:=ix.rc;rw[h3,<-e,z2]at e1;unfold kG at e1;omega
   have XN:∀x,aj=some x->x≠A.c:=fun x ex e=>by have e1:=ix.rc;rw[h3,<-e,z3 x ex]at e1;unfold kH at e1;omega
   have so:aM u.drew qj d aj junkj:=(z4.ae br Sq XN).below (bQ u.heap.size u).drew;obtain⟨y,Fq,oa,G⟩:=GQ.hm.put b qj (by omega);rw[R]at Fq;obtain⟨ρ2,y1,y2,y3⟩:=EU.ef u4d z2 z3 so oa G;have HN:Hid ((∃ρ' A',St y ρ' P A' (eF f (J.drop i)) fQ/\JrK y ρ' C t jj J i/\A'.c=A.c/\A'.m=A.m/\(∀x,ρ' x≠0->ρ x≠0))):=⟨ρ2,dA A1 b qj aj,by rw[re];exact y1,y2,h3,R,fun x e=>h5 x (y3 x e)⟩;have v:u.drew.cell? ⟨B0,0,none⟩=some (.pointer (some ⟨P,0,none⟩))/\u.drew.cell? ⟨P,3,none⟩=some (.map (some A.m))/\u.drew.cell? ⟨V,0,none⟩=some (.int .i64 b)/\u.drew.cell? ⟨V,2,none⟩=some (.pointer (some ⟨qj,0,none⟩)):=⟨o9,p3,v0,v2⟩;clear y1 y2 y3 re oa u3 u4 EU u4d mz GQ so;have um:=aA G;clear G;gi_wp2;refine gN (fun W=>W.cell? ⟨B0,0,none⟩=some (.pointer (some ⟨P,0,none⟩))/\W.cell? ⟨P,3,none⟩=some (.map (some A.m))/\W.cell? ⟨V,0,none⟩=some (.int .i64 b)/\W.cell? ⟨V,2,none⟩=some (.pointer (some ⟨qj,0,none⟩))) 8 (hF.inRound l) (fun _=>by omega) (by kernel_rfl) ?_ (by kernel_rfl) ?_
   ·rintro⟨a,w,h⟩;exact h
   ·skip
    refine aV (i:=0) 31 (.pointer (some ⟨P,0,none⟩)) (by kernel_rfl) (by kernel_rfl) rfl (by kernel_rfl) (by kernel_rfl) (by kernel_rfl) (fun _ _ _ h=>h) rfl rfl v (fun w' s=>by obtain⟨I,K,L,m4⟩:=s;go_simp;try rfl) ?_;simp only[Act.put,sB,sZ,sS];refine aV (i:=1) 32 (.pointer (some ⟨P,0,none⟩)) (by kernel_rfl) (by kernel_rfl) rfl (by kernel_rfl) (by kernel_rfl) (by kernel_rfl) (fun _ _ _ h=>h) rfl rfl v (fun w' s=>by obtain⟨I,K,L,m4⟩:=s;go_simp;try rfl) ?_;simp only[Act.put,sB,sZ,sS];refine aV (i:=2) 33 (.pointer (some ⟨P,3,none⟩)) (by kernel_rfl) (by kernel_rfl) rfl (by kernel_rfl) (by kernel_rfl) (by kernel_rfl) (fun _ _ _ h=>h) rfl rfl v (fun w' s=>by obtain⟨I,K,L,m4⟩:=s;go_simp;try rfl) ?_;simp only[Act.put,sB,sZ,sS];refine aV (i:=3) 34 (.map (some A.m)) (by kernel_rfl) (by kernel_rfl) rfl (by kernel_rfl) (by kernel_rfl) (by kernel_rfl) (fun _ _ _ h=>h) rfl rfl v (fun w' s=>by obtain⟨I,K,L,m4⟩:=s;go_simp;try rfl) ?_;simp only[Act.put,sB,sZ,sS];refine aV (i:=4) 35 (.pointer (some ⟨V,0,none⟩)) (by kernel_rfl) (by kernel_rfl) rfl (by kernel_rfl) (by kernel_rfl) (by kernel_rfl) (fun _ _ _ h=>h) rfl rfl v (fun w' s=>by obtain⟨I,K,L,m4⟩:=s;go_simp;try rfl) ?_;simp only[Act.put,sB,sZ,sS];refine aV (i:=5) 36 (.int .i64 b) (by kernel_rfl) (by kernel_rfl) rfl (by kernel_rfl) (by kernel_rfl) (by kernel_rfl) (fun _ _ _ h=>h) rfl rfl v (fun w' s=>by obtain⟨I,K,L,m4⟩:=s;go_simp;try rfl) ?_;simp only[Act.put,sB,sZ,sS];refine aV (i:=6) 37 (.pointer (some ⟨V,2,none⟩)) (by kernel_rfl) (by kernel_rfl) rfl (by kernel_rfl) (by kernel_rfl) (by kernel_rfl) (fun _ _ _ h=>h) rfl rfl v (fun w' s=>by obtain⟨I,K,L,m4⟩:=s;go_simp;try rfl) ?_;simp only[Act.put,sB,sZ,sS];refine aV (i:=7) 38 (.pointer (some ⟨qj,0,none⟩)) (by kernel_rfl) (by kernel_rfl) rfl (by kernel_rfl) (by kernel_rfl) (by kernel_rfl) (fun _ _ _ h=>h) rfl rfl v (fun w' s=>by obtain⟨I,K,L,m4⟩:=s;go_simp;try rfl) ?_;simp only[Act.put,sB,sZ,sS];refine oE 8 rfl fun K2 ae=>?_;go_simp;refine ae _ _ (fun q=>absurd rfl q) ?_;clear ae K2;refine aS (by kernel_rfl) ?_ _;obtain⟨U,vd,O,T⟩:=MK.out;have G:=um.out;have it:∀k,k<m.heap.size->k≠A.c->k≠A.m->y.heap[k]?=m.heap[k]?:=fun k hk e1 e2=>(G.block k (by show k<u.heap.size;rw[Ay];exact hk) (by rw[R];exact e2)).trans (br.block k hk e1);have N:Frm (fun k=>k=A.c\/k=A.m) E y:=((h6.trans (br.wide fun k _ e=>.inl e)).trans (Frm.drew _ _)).trans (G.wide fun k _ e=>.inr (by rw[<-R];exact e));have Dd:m.heap.size<=y.heap.size:=by rw[<-Ay];exact G.size
    have YO:=yl.size;have TC:=h6.size;have ef:Boxed y B0 61 (.pointer (some ⟨P,0,none⟩)):=(it _ h7.lt (by omega) (by omega)).trans h7;have H:KeepsFrom E.heap.size m y:=⟨Dd,fun k o hk AL _=>(it k (Array.getElem?_eq_some_iff.1 AL).1 (by omega) (by omega)).trans AL⟩;have M:KpB B4 C m y:=⟨Dd,it _ (by omega) (by omega) (by omega),fun g e=>it g (by have:=(IE g e).1;omega) (IE g e).2.1 (IE g e).2.2⟩;have HF:=aA (aI H (aI M (aI N ef)));clear H M N ef it U vd O T v;gi_wp2;obtain⟨H,M,N,ef⟩:=HF.out;obtain⟨ρ',A',z⟩:=HN.out;exact⟨H,M,⟨ρ',A',by rw[HR.out.2.2.2.2];exact z⟩,N,ef⟩
 ·rintro D W hD ⟨⟨ρ',A',B,Q,h3,R,h5⟩,h6,h7⟩ hK
  rw[eX,Nat.sub_self,List.drop_zero]at B;obtain⟨_,_,_,Qy,_⟩:=id B;have ce:gr≠A.c:=fun e=>by rw[e,Z.rc]at G7;omega
  have Aj:gr≠A.m:=fun e=>by rw[e,Z.rm]at G7;omega
  have Ex:IsC W gr (cZ (rs++rj)) 92:=(bo.of (yl.block gr bo.lt)).ae h6 (fun e=>by rcases e with e | e;exact ce e;exact Aj e);have uv:ρ' gr=0:=Nat.eq_zero_of_not_pos fun q=>h5 gr (by omega) G7;obtain⟨q1,q2⟩:=B.bw (w1:=W) (Frm.refl _ _) Ex (.inr uv) mo;have o9:=h7.cell;have z0:W.cell? ⟨P,0,none⟩=some (.slice (some ⟨A'.ra,0,none⟩) (eF f J).r.length ((eF f J).r.length+A'.rj.length)):=by rw[Qy.hP.cell];rfl
  have zf:=Qy.hP.frozen 0;have Wp:D≠P:=by have:=yl.size;omega
  have Ch:(W.setCell ⟨P,0,none⟩ (.slice (some ⟨gr,0,none⟩) rs.length (rs.length+rj.length))).heap[D]?=some (.deferred (some [])):=(aY _ _ Wp).trans hK;have N:Frm (fun k=>ρ k≠0) w (W.setCell ⟨P,0,none⟩ (.slice (some ⟨gr,0,none⟩) rs.length (rs.length+rj.length))):=by
   refine((Frm.aa yl).next h6 (fun x _ e=>?_)).trans (Frm.set (S:=fun k=>ρ k≠0) W (p:=⟨P,0,none⟩) (by show ρ P≠0;rw[Z.rP];omega) _);rcases e with e | e
   ·rw[e,Z.rc];omega
   ·rw[e,Z.rm];omega
  have HF:=aA (aI q1 (aI N Ch));have ni:=aA (aI U (aI vd (aI O T)));clear q1 q2 N Ch U vd O T ax cg PE Q hJ Lc hS;gi_wp2;obtain⟨q1,N,Ch⟩:=HF.out;obtain⟨U,vd,O,T⟩:=ni.out;generalize W.setCell ⟨P,0,none⟩ (.slice (some ⟨gr,0,none⟩) rs.length (rs.length+rj.length))=W5 at *;have DU:W5.grownBy (W5.putObj D (.deferred none)) (some D):=grownBy_putObj' W5 D _;refine⟨by simp,.inl ⟨_,_,rfl,run_takeDeferred Ch,?_⟩⟩;refine⟨.tuple #[],by simp[results,Tryz.f94,go_sem],⟨rfl,oV ρ' gr,_,q1.own DU fun x e=>?_,N.own DU fun x e=>?_,fun x hx e=>?_⟩⟩
  ·cases e;exact⟨by show D≠A'.m;rw[R];have:=yl.size;omega,_,Ch,rfl⟩
  ·cases e;have:=yl.size;omega
  ·unfold oV at e;rw[if_neg hx]at e;exact h5 x e
end Go.Proofs.YtmpagpeenjddgaaGreat
namespace Go.Proofs.YtmpagpeenjddgaaGreat
open Go.RowKit Go.Shelf Fo
attribute [local go_sem] Oper.semAt_some
theorem aHD(a:Int):wrap64 (wrap64 a+1)=wrap64 (a+1):=by
 simp only[wrap64];omega
def fN(zs ys:List Int):Int:=((frs zs ys zs.length zs.length).length:Int)
theorem wU(F:Fence)(n:Nat)(m:∀k,F.fn k)(i:F.round=none)(hn:3<=n)(a d:Option Addr)(c f:Nat)(zs ys:List Int)(I:ys.length=zs.length)(P:zs.length<=512)(J:8<=zs.length)(w:World)(N:Nts w (.slice a zs.length c) zs)(R:Nts w (.slice d ys.length f) ys):
  CallsIn F n Tryz.prog 95 #[.slice a zs.length c,.slice d ys.length f] w fun e W'=>e=.returned (.int .i64 (fN zs ys))/\Bl w W':=by
 have Q:1<=n:=by omega
 have L:Hid (ys.length=zs.length):=I;clear I;refine callsIn_of_wp_marks Tryz.func95 rfl (m _) ?_ i;simp only[Tryz.ntmps95,List.size_toArray,List.length_cons,List.length_nil,Nat.reduceAdd,Nat.reduceSub,Array.replicate_succ,Array.replicate_zero,List.push_toArray,List.append_toArray,List.nil_append,List.cons_append];gi_wp2_with (gi_at_call 113;refine(jK F (n-1) (m _) i _ _ _ ⟨_,_,_,rfl⟩ ⟨_,_,_,rfl⟩).mono ?_;rintro e w' ⟨rfl,rfl⟩);have y:=Boxed.new w 2 (.int .i64 0);have z:=Boxed.new (w.alloc (.cells #[.int .i64 0] 2)) 29 (.slice a zs.length c);have C:=Boxed.new ((w.alloc (.cells #[.int .i64 0] 2)).alloc (.cells #[.slice a zs.length c] 29)) 29 (.slice d ys.length f);simp only[World.size_alloc]at z C;have E:Bl w (((w.alloc (.cells #[.int .i64 0] 2)).alloc (.cells #[.slice a zs.length c] 29)).alloc (.cells #[.slice d ys.length f] 29)):=(((bQ _ w).alloc (nR _) _).alloc (by simp) _).alloc (by simp;omega) _;refine wpIn_rangeFunc_ownF i Q (gf:=133) (lb:=#[.pointer (some ⟨w.heap.size+1,0,none⟩),.pointer (some ⟨w.heap.size+1+1,0,none⟩)]) rfl (m _) (enters_of Tryz.func133 (by kernel_rfl) rfl)
  (mU F (n-1) (m _) i (by omega) (w.heap.size+1) (w.heap.size+1+1) w.heap.size a d c f zs ys L.out P J _ (by simp) (by simp) (by simp;omega) ((z.alloc _).cell) C.cell w N R (by omega) E) KpF.trans (KpF.put (by simp;omega) (by simp) (by simp)) (bQ _ _) (fun _=>rfl)
  (fun b W=>(W.cell? ⟨w.heap.size,0,none⟩=some (.int .i64 (wrap64 (b.length:Int)))/\W.frozen? ⟨w.heap.size,0,none⟩=false)/\Bl w W)
  (fun k b W=>False/\Bl w W)
  (OwnFrom.and (Own.from (fun s A B u h r t=>⟨cell_kept h.1 r t,(frozen_kept h.1 r t).trans h.2⟩) _) (ownFrom_below (nR _) (by simp;omega)))
  (fun k=>OwnFrom.and (Own.from (fun s A B u h r t=>h) _) (ownFrom_below (nR _) (by simp;omega)))
  ⟨⟨by(have e0:wrap64 ((([]:List (Blk zs.length)).length:Nat):Int)=0:=(by simp[wrap64]));rw[e0];exact((y.alloc _).alloc _).cell,((y.alloc _).alloc _).frozen⟩,E⟩
  (fun x=>{tmps:=#[.slice a zs.length c,.slice d ys.length f,undef,undef,.int .i64 0,.pointer (some ⟨w.heap.size,0,none⟩),.slice a zs.length c,.slice d ys.length f,.func (.func 133) #[] #[.pointer (some ⟨w.heap.size+1,0,none⟩),.pointer (some ⟨w.heap.size+1+1,0,none⟩)],.int .i64 (x.1:Int),undef,undef,undef],defers:=[]}) ?assign ?body ?done ?stop
 case assign=>
  intro l x W K g;gi_wp2;simpa using g
 case body=>
  rintro l b x W ⟨⟨o,H⟩,j⟩ _;have v:wrap64 (wrap64 (b.length:Int)+1)=wrap64 (((b++[x]).length:Nat):Int):=by rw[aHD];simp
  have M:=aA v;clear v;generalize wrap64 (b.length:Int)=q at *;gi_wp2;refine⟨KeepsOthers.setCell _ _ _,⟨(bQ _ W).setCell (p:=⟨w.heap.size,0,none⟩) (nR _) _,aY _ _ (by show w.heap.size+1≠w.heap.size;omega),aY _ _ (by show w.heap.size+1+1≠w.heap.size;omega)⟩,⟨?_,?_⟩,j.setCell (p:=⟨w.heap.size,0,none⟩) (nR _) _⟩
  ·rw[World.cell?_setCell_same' _ _ _ (by rw[o];rfl),M.out]
  ·rw[World.frozen?_setCell];exact H
 case done=>
  rintro D xs W G rfl ⟨⟨o,H⟩,j⟩ g;have S:wrap64 (((frs zs ys zs.length zs.length).length:Nat):Int)=fN zs ys:=by
   have:=jZ zs ys zs.length zs.length
   unfold fN;simp only[wrap64];omega
  rw[S]at o;gi_wp2;refine⟨by simp,.inl ⟨_,_,rfl,run_takeDeferred g,?_⟩⟩;refine⟨.int .i64 (fN zs ys),?_,rfl,j.trans (belowK_b (w:=w) (nR _) W D _ _ (by simp at G;omega) g rfl rfl)⟩;simp[results,Tryz.f95,go_sem]
 case stop=>
  rintro D k b W G ⟨q,T,U⟩ ⟨O,j⟩ g;exact O.elim
theorem tP(w:World)(ρ:Nat->Nat)(P:Nat)(A:Adr)(f:fZ)(J:List aR)(gr:Nat)(rs rj:List (Int×Int))(e:St w ρ P A f J)(g:J.length<=900000)(a:f.c.length<=512)(c:∀r∈J,r.1<f.c.length)(d:IsC w gr (cZ (rs++rj)) 92)(b:ρ gr=0)(h:rs.length+rj.length<=maxLen):
  Calls Tryz.prog 94 #[.pointer (some ⟨P,0,none⟩),.slice (some ⟨gr,0,none⟩) rs.length (rs.length+rj.length)] w (RsP w ρ P f J gr rs):=
 (callsIn_wide (n:=5)).1 (aCJ Fence.wide 5 (nI.wide _) rfl (nR _) w ρ P A f J gr _ rs rj e g a c d b rfl h)
theorem aBH(w:World):(Instr.typeAssert (.iface 160 (.agg #[])) 20 160 true).run Tryz.prog w=.ok (.tuple #[.agg #[],.bool true]) w:=by kernel_rfl
structure CtP(w:World)(ρ:Nat->Nat)(P:Nat)(f:fZ)(J:List aR)(gr:Nat)(rs:List (Int×Int))(cd:Nat)(w':World):Prop where
 ex:∃ρ' A',St w' ρ' P A' {eF f J with r:=rs} fQ/\Frm (fun k=>ρ k≠0\/k=cd) w w'/\∀x,x≠gr->ρ' x≠0->ρ x≠0
 cd:w'.cell? ⟨cd,0,none⟩=some (.int .i64 7)
theorem aBK(a g h:Nat)(b:List PanicEntry)(w:World)(ρ:Nat->Nat)(P:Nat)(A:Adr)(f:fZ)(J:List aR)(gr:Nat)(rs rj:List (Int×Int))(L:St w ρ P A f J)(N:J.length<=900000)(C:f.c.length<=512)(I:∀r∈J,r.1<f.c.length)(o:IsC w gr (cZ (rs++rj)) 92)(D:ρ gr=0)(O:rs.length+rj.length<=maxLen)
  (i:IsC w a #[.int .i64 0] 2) (y:IsC w g #[.pointer (some ⟨P,0,none⟩)] 61) (t:IsC w h #[.slice (some ⟨gr,0,none⟩) rs.length (rs.length+rj.length)] 56) (x:ρ a=0/\ρ g=0/\ρ h=0):
  CallsD Tryz.prog 93 #[.pointer (some ⟨a,0,none⟩),.pointer (some ⟨g,0,none⟩),.pointer (some ⟨h,0,none⟩)] (.panicking ({v:=.iface 160 (.agg #[]),recovered:=false} :: b)) w fun e u' w'=>
   e=.returned (.tuple #[])/\u'=.panicking ({v:=.iface 160 (.agg #[]),recovered:=true} :: b)/\CtP w ρ P f J gr rs a w':=by
 refine callsD_of_wpS Tryz.func93 rfl fun V cs M=>?_;refine wpS_seq ?_;refine wpS_seq ?_;apply wpS_region;simp[wpOpsS,go_sem,recoverD,M,Tryz.ntmps93,Exit.thenS];refine wpS_of_wp ?_;simp only[Array.replicate_succ,Array.replicate_zero,List.push_toArray,List.setIfInBounds_toArray,List.set_cons_zero,List.set_cons_succ,List.append_toArray,List.nil_append,List.cons_append];obtain⟨w1,q⟩:=eZ (w.alloc (.cells #[] 160));have s:=bAl q;have j:=i.of (s.block _ i.lt);have T:w1.cell? ⟨a,0,none⟩=some (.int .i64 0):=j.c rfl;have U:=j.frozen 0;have R:=aBH;obtain⟨c,l⟩:=eZ (w1.setCell ⟨a,0,none⟩ (.int .i64 7));have d:Frm (fun k=>k=a) w c:=by rw[<-l];exact(Frm.aa s).trans (Frm.set (S:=fun k=>k=a) w1 (p:=⟨a,0,none⟩) rfl _)
 have n:IsC c a #[.int .i64 7] 2:=by
  have:=j.set 0 (.int .i64 7)
  rw[l]at this;exact this
 go_wp2
 refine wpS_of_wp ?_;have K:St c ρ P A f J:=L.ae (d.wide fun k _ e=>by rw[e];exact x.1);have G:IsC c gr (cZ (rs++rj)) 92:=o.ae d (fun e=>IsC.ne (e▸o) i (by decide) rfl);have Q:IsC c g #[.pointer (some ⟨P,0,none⟩)] 61:=y.ae d (fun e=>IsC.ne (e▸y) i (by decide) rfl);have H:IsC c h #[.slice (some ⟨gr,0,none⟩) rs.length (rs.length+rj.length)] 56:=t.ae d (fun e=>IsC.ne (e▸t) i (by decide) rfl);have d1:c.cell? ⟨a,0,none⟩=some (.int .i64 7):=n.c rfl;have d2:c.cell? ⟨g,0,none⟩=some (.pointer (some ⟨P,0,none⟩)):=Q.c rfl;have W:c.cell? ⟨h,0,none⟩=some (.slice (some ⟨gr,0,none⟩) rs.length (rs.length+rj.length)):=H.c rfl;clear q l;go_wp2_with fail;refine(tP c ρ P A f J gr rs rj K N C I G D O).mono ?_;rintro e z ⟨rfl,ρ3,B,g1,m,u⟩;have F:IsC z a #[.int .i64 7] 2:=n.ae m (fun e=>e x.1);have E:Hid (CtP w ρ P f J gr rs a z):=⟨⟨ρ3,B,g1,(d.wide fun k _ e=>.inr e).trans (m.wide fun k _ e=>.inl e),u⟩,F.c rfl⟩;clear g1 m u;go_wp2;exact⟨rfl,_,rfl,.tuple #[],by simp[results,Tryz.f93,go_sem],rfl,rfl,E.out⟩
theorem aBJ(a b c:Nat)(w:World)(ρ:Nat->Nat)(P:Nat)(A:Adr)(f:fZ)(J:List aR)(gr:Nat)(rs rj:List (Int×Int))(v:St w ρ P A f J)(y:J.length<=900000)(l:f.c.length<=512)(p:∀r∈J,r.1<f.c.length)(q:IsC w gr (cZ (rs++rj)) 92)(m:ρ gr=0)(z:rs.length+rj.length<=maxLen)
  (h:IsC w a #[.int .i64 7] 2) (B:IsC w b #[.pointer (some ⟨P,0,none⟩)] 61) (t:IsC w c #[.slice (some ⟨gr,0,none⟩) rs.length (rs.length+rj.length)] 56) (u:ρ a=0/\ρ b=0/\ρ c=0):
  CallsD Tryz.prog 93 #[.pointer (some ⟨a,0,none⟩),.pointer (some ⟨b,0,none⟩),.pointer (some ⟨c,0,none⟩)] .returning w fun e u' w'=>
   e=.returned (.tuple #[])/\u'=.returning/\CtP w ρ P f J gr rs a w':=by
 refine callsD_of_wpS Tryz.func93 rfl fun s cs x=>?_;refine wpS_seq ?_;refine wpS_seq ?_;apply wpS_region;simp[wpOpsS,go_sem,recoverD,x,Tryz.ntmps93,Exit.thenS];refine wpS_of_wp ?_;simp only[Array.replicate_succ,Array.replicate_zero,List.push_toArray,List.setIfInBounds_toArray,List.set_cons_zero,List.set_cons_succ,List.append_toArray,List.nil_append,List.cons_append];have d1:w.cell? ⟨a,0,none⟩=some (.int .i64 7):=h.c rfl;have d2:w.cell? ⟨b,0,none⟩=some (.pointer (some ⟨P,0,none⟩)):=B.c rfl;have C:w.cell? ⟨c,0,none⟩=some (.slice (some ⟨gr,0,none⟩) rs.length (rs.length+rj.length)):=t.c rfl;go_wp2;refine wpS_of_wp ?_;go_wp2_with fail;refine(tP w ρ P A f J gr rs rj v y l p q m z).mono ?_;rintro e i ⟨rfl,ρ3,j,g1,d,g⟩;have o:IsC i a #[.int .i64 7] 2:=h.ae d (fun e=>e u.1);have n:Hid (CtP w ρ P f J gr rs a i):=⟨⟨ρ3,j,g1,d.wide fun k _ e=>.inl e,g⟩,o.c rfl⟩;clear g1 d g;go_wp2;exact⟨rfl,_,by cases s;simp_all,.tuple #[],by simp[results,Tryz.f93,go_sem],rfl,rfl,n.out⟩
theorem aHT(a c f:Nat)(w:World)(g:IsC w a #[.int .i64 0] 2):
  CallsD Tryz.prog 93 #[.pointer (some ⟨a,0,none⟩),.pointer (some ⟨c,0,none⟩),.pointer (some ⟨f,0,none⟩)] .returning w fun e u' w'=>
   e=.returned (.tuple #[])/\u'=.returning/\w'=w:=by
 refine callsD_of_wpS Tryz.func93 rfl fun b cs d=>?_;refine wpS_seq ?_;refine wpS_seq ?_;apply wpS_region;simp[wpOpsS,go_sem,recoverD,d,Tryz.ntmps93,Exit.thenS];refine wpS_of_wp ?_;simp only[Array.replicate_succ,Array.replicate_zero,List.push_toArray,List.setIfInBounds_toArray,List.set_cons_zero,List.set_cons_succ,List.append_toArray,List.nil_append,List.cons_append];have d1:w.cell? ⟨a,0,none⟩=some (.int .i64 0):=g.c rfl;go_wp2;refine wpS_of_wp ?_;go_wp2;exact⟨rfl,_,by cases b;simp_all,.tuple #[],by simp[results,Tryz.f93,go_sem],rfl,rfl,rfl⟩
structure Mx(X:Nat->Prop)(w:World)(ρ:Nat->Nat)(w':World)(ρ':Nat->Nat):Prop where
 ae:Frm (fun k=>ρ k≠0\/X k) w w'
 br:∀x,x<w.heap.size->ρ' x=ρ x
structure ChP(k:Nat)(X:Nat->Prop)(L:Int)(T:fZ->(Nat->Option Obj)->Prop)(w:World)(ρ:Nat->Nat)(P:Nat)(f:fZ)(r:Option fZ)(e:Ending)(w':World):Prop where
 no:r=none->e=aCH/\∃ρ' A' g J',St w' ρ' P A' g J'/\Mx X w ρ w' ρ'/\JS k f [] g J'
 yes:∀g,r=some g->e=.returned (.tuple #[])/\∃ρ' A' J',St w' ρ' P A' g J'/\Mx X w ρ w' ρ'/\JS k f [] g J'/\Sz L g/\T g (fun x=>w'.heap[x]?)
def jI(f:fZ)(r:Option fZ):fZ×Int:=match r with
 | none=>(f,7)
 | some g=>if fN g.c g.m<2*fO g.c.length then(f,7)else(g,0)
structure AtP(X:Nat->Prop)(T:fZ->(Nat->Option Obj)->Prop)(w:World)(ρ:Nat->Nat)(P:Nat)(f:fZ)(r:Option fZ)(e:Ending)(w':World):Prop where
 e:e=.returned (.int .i64 (jI f r).2)
 ex:∃ρ' A' J',St w' ρ' P A' (jI f r).1 J'/\Frm (fun k=>ρ k≠0\/X k) w w'/\∀x,x<w.heap.size->ρ x=0->ρ' x=0
 t:(jI f r).2=0->T (jI f r).1 (fun x=>w'.heap[x]?)
theorem St.ev{w:World}{ρ:Nat->Nat}{P:Nat}{A:Adr}{f:fZ}{J:List aR}(h:St w ρ P A f J):St (w.setCell ⟨P,7,none⟩ (.slice none 0 0)) ρ P A f []:=by
 obtain⟨j,m,l,a,_⟩:=h;have k:Frm (fun x=>x=P) w (w.setCell ⟨P,7,none⟩ (.slice none 0 0)):=Frm.set (S:=fun x=>x=P) w (p:=⟨P,7,none⟩) rfl _;have b:∀{x r},ρ x=r->r≠1->¬x=P:=fun {x r} e c q=>c (by rw[<-e,q,a.rP]);refine⟨none,[],[],a.gen (Kp.same a k) (.inr ?_) (.inl ⟨b a.rr (by omega),rfl,rfl⟩) (.inl ⟨b a.rm (by omega),rfl⟩) rfl (.inl ⟨b a.rc (by omega),rfl⟩) rfl (.inl ⟨b a.rd (by omega),rfl,rfl⟩) (fun x d g=>.inl ⟨g,rfl,rfl,fun y i=>?_⟩) a.no a.rs a.ds,fun _=>JrL.start _ _⟩
 ·have:=a.hP.set 7 (.slice none 0 0)
  simpa [dG,aIT,adr] using this
 ·rcases i with e | e
  ·exact b e (by unfold cJ;omega)
  ·exact b e (by unfold cG;omega)
theorem rJ{K L:Int}(k:Nat)(X:Nat->Prop)(T:fZ->(Nat->Option Obj)->Prop)(cf:Nat)(lb:Array Value)(w:World)(ρ:Nat->Nat)(P:Nat)(A:Adr)(f:fZ)(J0:List aR)(r:Option fZ)(h:St w ρ P A f J0)(hz:Sz K f)(hL:L<=1000000)(hk:k<=500000)(aw:0<f.r.length)(jy:f.r.length<=16)
  (hX:∀x,X x->x<w.heap.size/\ρ x=0) (hT:∀g (h h':Nat->Option Obj),(∀x,x<w.heap.size->h x=h' x)->T g h->T g h')
  (eg:∀args w,(callFunc cf args).run Tryz.prog w=.ok (.enter cf args) w)
  (BN:∀W,Frm (fun x=>x=P) w W->St W ρ P A f []->Calls Tryz.prog cf lb W (ChP k X L T W ρ P f r)):
  Calls Tryz.prog 79 #[.pointer (some ⟨P,0,none⟩),.func (.func cf) #[] lb] w (AtP X T w ρ P f r):=by
 have Nu:∀(fn:Fn) (first cap:Array Value) (w:World),(Instr.makeFunc fn first cap).run Tryz.prog w=.ok (.func fn first cap) w:=fun _ _ _ _=>rfl;obtain⟨l,uu⟩:=eZ (w.heap.size);obtain⟨w1,ci⟩:=eZ (w.alloc (.cells #[.pointer (some ⟨P,0,none⟩)] 61));obtain⟨a,ur⟩:=eZ (w1.heap.size);obtain⟨w2,dh⟩:=eZ (w1.alloc (.cells #[.int .i64 0] 2));have fe:=bAl ci;have di:=bAl dh;have ez:w1.heap.size=w.heap.size+1:=by rw[<-ci];simp
 have ku:w2.heap.size=w1.heap.size+1:=by rw[<-dh];simp
 have KV:=iNw ci uu;have M:=KV.of (di.block _ KV.lt);have CD:=iNw dh ur;have xf:Bl w w2:=fe.trans (di.mono (by omega));have be:=h.below xf;obtain⟨_,_,_,iy,_⟩:=id be;have k1:w2.cell? ⟨l,0,none⟩=some (.pointer (some ⟨P,0,none⟩)):=M.c rfl;have k2:w2.cell? ⟨P,0,none⟩=some (.slice (some ⟨A.ra,0,none⟩) f.r.length (f.r.length+A.rj.length)):=by rw[iy.hP.cell];rfl
 have Ug:Tsl w2 (.slice (some ⟨A.ra,0,none⟩) f.r.length (f.r.length+A.rj.length)) f.r:=.inr ⟨A.ra,0,f.r.length+A.rj.length,f.r++A.rj,by simp,iy.hr,by simp,by simp⟩;have ni:=aA (aI ez ku);clear ez ku;go_enter_defers Tryz.func79,Tryz.ntmps79;go_wp2_with fail;refine(aBM _ f.r w2 Ug (by omega)).mono ?_;rintro e w3 ⟨v',rfl,⟨ag,rj,rfl,li,ws,BP⟩,y⟩;obtain⟨gr,rfl⟩:∃gr,ag=some gr:=by
  cases ag with
  | none=>have:=(ws rfl).1;rw[this]at aw;simp at aw
  | some g=>exact⟨g,rfl⟩
 obtain⟨CJ,Kc⟩:=li gr rfl;simp only[adr,Option.map_some];obtain⟨u,fx⟩:=eZ (w3.heap.size);obtain⟨t,cx⟩:=eZ (w3.alloc (.cells #[.slice (some ⟨gr,0,none⟩) f.r.length (f.r.length+rj.length)] 56));have Z:=bAl cx;have JC:Bl w t:=(xf.trans (y.mono xf.size)).trans (Z.mono (lT xf.size y.size));have ax:=h.below JC;obtain⟨_,_,_,mh,_⟩:=id ax;have k3:t.cell? ⟨l,0,none⟩=some (.pointer (some ⟨P,0,none⟩)):=by
  rw[((M.of (y.block _ M.lt)).of (Z.block _ (lL M.lt y.size)):IsC t l _ _).cell];rfl
 have k4:∃v,t.cell? ⟨P,7,none⟩=some v:=⟨_,by rw[mh.hP.cell];rfl⟩;obtain⟨v7,k4⟩:=k4;have k5:=mh.hP.frozen 7;obtain⟨z,tg⟩:=eZ (t.setCell ⟨P,7,none⟩ (.slice none 0 0));have de:=ax.ev;rw[tg]at de;have eu:Frm (fun x=>x=P) w z:=by rw[<-tg];exact(Frm.aa JC).trans (Frm.set (S:=fun x=>x=P) t (p:=⟨P,7,none⟩) rfl _)
 have RW:=BN z eu de;have Dp:P<w.heap.size:=by obtain⟨_,_,_,q,_⟩:=id h;exact q.own P (by rw[q.rP];omega)
 have ρ0:∀x,w.heap.size<=x->ρ x=0:=fun x R=>Decidable.byContradiction fun q=>by
  obtain⟨_,_,_,q',_⟩:=id h;exact absurd (q'.own x q) (by omega)
 have G:w.heap.size<=l/\w.heap.size<=a/\w.heap.size<=gr/\w.heap.size<=u:=by
  have:=ni.out.1;have:=ni.out.2;have:=y.size;omega
 have EK:Frm (fun x=>x=P) t z:=by rw[<-tg];exact Frm.set (S:=fun x=>x=P) t (p:=⟨P,7,none⟩) rfl _
 have KW:IsC z l #[.pointer (some ⟨P,0,none⟩)] 61:=(((M.of (y.block _ M.lt)).of (Z.block _ (lL M.lt y.size)):IsC t l _ _).ae EK (by omega));have KG:IsC z a #[.int .i64 0] 2:=(((CD.of (y.block _ CD.lt)).of (Z.block _ (lL CD.lt y.size)):IsC t a _ _).ae EK (by omega));have DU:IsC z gr (cZ (f.r++rj)) 92:=((Kc.of (Z.block _ Kc.lt):IsC t gr _ _).ae EK (by omega));have LB:IsC z u #[.slice (some ⟨gr,0,none⟩) f.r.length (f.r.length+rj.length)] 56:=by
  have:IsC t u #[.slice (some ⟨gr,0,none⟩) f.r.length (f.r.length+rj.length)] 56:=by rw[<-cx,<-fx];exact IsC.new _ _ _
  exact this.ae EK (by omega)
 have F:∀(b:World) (ρ6:Nat->Nat),Mx X z ρ b ρ6->IsC b l #[.pointer (some ⟨P,0,none⟩)] 61/\IsC b a #[.int .i64 0] 2/\IsC b gr (cZ (f.r++rj)) 92/\IsC b u #[.slice (some ⟨gr,0,none⟩) f.r.length (f.r.length+rj.length)] 56/\ρ6 l=0/\ρ6 a=0/\ρ6 gr=0/\ρ6 u=0:=fun b ρ6 m=>by
  have no:∀x,w.heap.size<=x->¬(ρ x≠0\/X x):=fun x R q=>q.elim (fun q=>q (ρ0 x R)) (fun q=>absurd (hX x q).1 (by omega));exact⟨KW.ae m.ae (no _ G.1),KG.ae m.ae (no _ G.2.1),DU.ae m.ae (no _ G.2.2.1),LB.ae m.ae (no _ G.2.2.2),by rw[m.br _ KW.lt,ρ0 _ G.1],by rw[m.br _ KG.lt,ρ0 _ G.2.1],by rw[m.br _ DU.lt,ρ0 _ G.2.2.1],by rw[m.br _ LB.lt,ρ0 _ G.2.2.2]⟩
 have Fs:w.heap.size<=z.heap.size:=eu.size;have I:∀(b s:World) (ρ6:Nat->Nat) (g:fZ) (J':List aR),Mx X z ρ b ρ6->JS k f [] g J'->CtP b ρ6 P g J' gr f.r a s->∃ρ' A' J',St s ρ' P A' f J'/\Frm (fun k=>ρ k≠0\/X k) w s/\∀x,x<w.heap.size->ρ x=0->ρ' x=0:=fun b s ρ6 g J' m j c=>by
  obtain⟨⟨ρ7,A7,c1,c2,c3⟩,_⟩:=c;rw[JI.cB (j.ji f (JI.start f))]at c1;refine⟨ρ7,A7,_,c1,?_,fun x R h0=>Decidable.byContradiction fun q=>?_⟩
  ·refine((eu.wide (S':=fun k=>ρ k≠0\/X k) fun x _ e=>.inl (by rw[e];obtain⟨_,_,_,q,_⟩:=id h;rw[q.rP];omega)).next m.ae fun x _ q=>q).next c2 fun x R q=>?_
   rcases q with q | q
   ·exact .inl (by rwa [m.br x (by omega)]at q)
   ·exact absurd q (by omega)
  ·exact c3 x (by omega) q (by rw[m.br x (by omega),h0])
 have HK:=aA F;have HU:=aA I;clear F I KW KG DU LB;go_wp2_with fail;clear EK be iy ax mh de k1 k2 k3 k4 k5 ci dh cx tg fe di KV M CD xf Ug y li ws Kc Z JC BN ni;refine RW.mono ?_;rintro e b hC;cases r with
 | none=>
  obtain⟨rfl,ρ6,d,g,C,s6,H,U⟩:=hC.no rfl;obtain⟨Y,b2,b3,b4,z1,z2,z3,z4⟩:=HK.out _ _ H;have Q:=U.ji f (JI.start f);have ai:C.length<=k:=by have:=U.len;simpa using this
  refine leaves_cons (f:=93) (args:=#[.pointer (some ⟨a,0,none⟩),.pointer (some ⟨l,0,none⟩),.pointer (some ⟨u,0,none⟩)]) (by simp) (by simp[go_sem]) ?_;refine(aBK a l u [] b ρ6 P d g C gr f.r rj s6 (by omega) (by rw[Q.len];exact hz.al) (fun r hr=>by rw[Q.len];exact Q.lt r hr) b3 z3 BP b2 Y b4 ⟨z2,z1,z4⟩).mono ?_;rintro e u' s ⟨rfl,rfl,UD⟩;have kq:=UD.cd;simp[Leaves,settle,results,Tryz.results79,go_sem,kq];exact⟨rfl,HU.out _ _ _ _ _ H U UD,fun q=>by simp[jI]at q⟩
 | some g=>
  obtain⟨rfl,ρ6,d,C,s6,H,U,N,t6⟩:=hC.yes g rfl;obtain⟨Y,b2,b3,b4,z1,z2,z3,z4⟩:=HK.out _ _ H;have Q:=U.ji f (JI.start f);have ai:C.length<=k:=by have:=U.len;simpa using this
  obtain⟨_,_,_,V,_⟩:=id s6;have n1:Nts b (.slice (some ⟨d.c,0,none⟩) g.c.length g.c.length) g.c:=by
   have:=mC (ys:=[]) (zs:=g.c) (by simpa using V.hc) fun i=>⟨(N.cb i).1,Int.le_trans (N.cb i).2 (by omega)⟩
   simpa using this
  have n2:Nts b (.slice (some ⟨d.d,0,none⟩) g.m.length (g.m.length+d.dj.length)) g.m:=xM V.hd fun i=>⟨(N.mb i).1,Int.le_trans (N.mb i).2 (by omega)⟩;have k1:b.cell? ⟨l,0,none⟩=some (.pointer (some ⟨P,0,none⟩)):=Y.c rfl;have k2:b.cell? ⟨P,4,none⟩=some (.slice (some ⟨d.c,0,none⟩) g.c.length g.c.length):=by rw[V.hP.cell];rfl
  have k3:b.cell? ⟨P,5,none⟩=some (.slice (some ⟨d.d,0,none⟩) g.m.length (g.m.length+d.dj.length)):=by rw[V.hP.cell];rfl
  have Ar:Calls Tryz.prog 95 #[.slice (some ⟨d.c,0,none⟩) g.c.length g.c.length,.slice (some ⟨d.d,0,none⟩) g.m.length (g.m.length+d.dj.length)] b.drew fun e W'=>e=.returned (.int .i64 (fN g.c g.m))/\Bl b W':=by
   refine((callsIn_wide (n:=3)).1 (wU Fence.wide 3 (fun _=>trivial) rfl (nR _) _ _ _ _ g.c g.m N.m N.al N.n8 b.drew (n1.below (bQ _ _).drew) (n2.below (bQ _ _).drew))).mono ?_;rintro e w' ⟨h1,h2⟩;exact⟨h1,(bQ _ b).drew.trans h2⟩
  have HC:=aA Ar;have HB:=aA (fun w' (hb:Bl b w')=>aI ((hb.cell (p:=⟨l,0,none⟩) Y.lt).trans k1) (aI ((hb.cell (p:=⟨P,4,none⟩) V.hP.lt).trans k2) ((hb.cell (p:=⟨P,5,none⟩) V.hP.lt).trans k3)));go_wp2_with fail;go_region_held3 (fun w'=>w'.cell? ⟨l,0,none⟩=some (.pointer (some ⟨P,0,none⟩))/\w'.cell? ⟨P,4,none⟩=some (.slice (some ⟨d.c,0,none⟩) g.c.length g.c.length)/\w'.cell? ⟨P,5,none⟩=some (.slice (some ⟨d.d,0,none⟩) g.m.length (g.m.length+d.dj.length))) (first | assumption | go_keep)
   ((first
    | (go_at_call 95;refine HC.out.mono ?_;rintro e s ⟨rfl,J⟩;have oo:=HB.out _ J)
    | (go_at_call 96;refine(qR _ _).mono ?_;rintro e B ⟨rfl,rfl⟩)))
  clear oo;obtain⟨rv,OC⟩:=eZ (fO (g.c.length:Int));have Yi:0<=rv/\rv<=30:=by have:=N.al;rw[<-OC];unfold fO;split<;>omega
  have yc:IntKind.i64.wrap (2*rv)=2*rv:=IntWalk.i64_in _ ⟨by omega,by omega⟩;obtain⟨fc,ud⟩:=eZ (fN g.c g.m);rw[OC,ud,yc];have Tt:=aA OC;have Th:=aA ud;have s7:=s6.below J;have b17:=Y.of (J.block _ Y.lt);have o:=b2.of (J.block _ b2.lt);have b37:IsC s gr (cZ (f.r++rj)) 92:=b3.of (J.block _ b3.lt);have b47:=b4.of (J.block _ b4.lt);have cc:s.cell? ⟨a,0,none⟩=some (.int .i64 0):=o.c rfl;have cz:=o.frozen 0;clear OC ud yc HC HB n1 n2 k1 k2 k3;by_cases ak:fc<2*rv
  ·obtain⟨B,G2⟩:=eZ (s.setCell ⟨a,0,none⟩ (.int .i64 7))
   have E:Frm (fun x=>x=a) s B:=by rw[<-G2];exact Frm.set (S:=fun x=>x=a) s (p:=⟨a,0,none⟩) rfl _
   have D:IsC B a #[.int .i64 7] 2:=by
    have:=o.set 0 (.int .i64 7)
    rw[G2]at this;exact this
   have b18:=b17.ae E (fun e=>IsC.ne (e▸b17) o (by decide) rfl);have b38:=b37.ae E (fun e=>IsC.ne (e▸b37) o (by decide) rfl);have b48:=b47.ae E (fun e=>IsC.ne (e▸b47) o (by decide) rfl);have s8:St B ρ6 P d g C:=s7.ae (E.wide fun x _ e=>by rw[e];exact z2);go_wp2;refine leaves_cons (f:=93) (args:=#[.pointer (some ⟨a,0,none⟩),.pointer (some ⟨l,0,none⟩),.pointer (some ⟨u,0,none⟩)]) (by simp) (by simp[go_sem]) ?_;refine(aBJ a l u B ρ6 P d g C gr f.r rj s8 (by omega) (by rw[Q.len];exact hz.al) (fun r hr=>by rw[Q.len];exact Q.lt r hr) b38 z3 BP D b18 b48 ⟨z2,z1,z4⟩).mono ?_;rintro e u' w9 ⟨rfl,rfl,UE⟩;have kq:=UE.cd;have O:jI f (some g)=(f,7):=by show(if fN g.c g.m<2*fO g.c.length then(f,(7:Int))else(g,0))=_;rw[Th.out,Tt.out,if_pos ak]
   have Wl:CtP b ρ6 P g C gr f.r a w9:=by
    obtain⟨⟨ρ9,A9,c1,c2,c3⟩,c4⟩:=UE;exact⟨⟨ρ9,A9,c1,((Frm.aa J).trans (E.wide fun x _ e=>.inr e)).trans c2,c3⟩,c4⟩
   simp[Leaves,settle,results,Tryz.results79,go_sem,kq]
   exact⟨by rw[O],by rw[O];exact HU.out _ _ _ _ _ H U Wl,fun q=>by simp[O]at q⟩
  ·obtain⟨B,G2⟩:=eZ (s.setCell ⟨a,0,none⟩ (.int .i64 0))
   have E:Frm (fun x=>x=a) s B:=by rw[<-G2];exact Frm.set (S:=fun x=>x=a) s (p:=⟨a,0,none⟩) rfl _
   have D:IsC B a #[.int .i64 0] 2:=by
    have:=o.set 0 (.int .i64 0)
    rw[G2]at this;exact this
   have s8:St B ρ6 P d g C:=s7.ae (E.wide fun x _ e=>by rw[e];exact z2);go_wp2;refine leaves_cons (f:=93) (args:=#[.pointer (some ⟨a,0,none⟩),.pointer (some ⟨l,0,none⟩),.pointer (some ⟨u,0,none⟩)]) (by simp) (by simp[go_sem]) ?_;refine(aHT a l u B D).mono ?_;rintro e u' w9 ⟨rfl,rfl,Ia⟩;subst Ia;have kq:w9.cell? ⟨a,0,none⟩=some (.int .i64 0):=D.c rfl;have O:jI f (some g)=(g,0):=by show(if fN g.c g.m<2*fO g.c.length then(f,(7:Int))else(g,0))=_;rw[Th.out,Tt.out,if_neg (by omega)]
   have IW:w.heap.size<=b.heap.size:=lT Fs H.ae.size;have Md:Frm (fun x=>x=a) b w9:=(Frm.aa J).trans E;simp[Leaves,settle,results,Tryz.results79,go_sem,kq];refine⟨by rw[O],?_,fun _=>?_⟩
   ·rw[O]
    refine⟨ρ6,d,C,s8,?_,fun x R h0=>by rw[H.br x (by omega),h0]⟩;refine((eu.wide (S':=fun k=>ρ k≠0\/X k) fun x _ e=>.inl (by rw[e];obtain⟨_,_,_,q,_⟩:=id h;rw[q.rP];omega)).next H.ae fun x _ q=>q).next Md fun x R q=>absurd q (by omega)
   ·rw[O]
    exact hT g _ _ (fun x R=>(Md.block x (by omega) (by omega)).symm) t6
