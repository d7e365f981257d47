import Derived.Test.YtmpagpeenjddgaaGreatSq27
set_option maxHeartbeats 9999999
set_option maxRecDepth 99999
set_option linter.all false
namespace Go.Proofs.YtmpagpeenjddgaaGreat
open Go.RowKit Go.Shelf Fo
variable{K:Int}{B1 base t:Nat}{W W' w:World}
attribute [local go_sem] Oper.semAt_some
theorem Ely.Own.grow{α:Type}{Y:Ely α}{w':World}{u:Value}{l:List α}{row:Option Nat}(h:Y.Own base w u l)(f:w.grownBy w' row)(hr:∀r,row=some r->∃o:Obj,w.heap[r]?=some o/\o.isCells=false):Y.Own base w' u l:=by
 obtain⟨a,b,rfl,c,d⟩:=h;exact⟨a,b,rfl,⟨fun g e=>(c.arr g e).own f hr,c.nil,c.small⟩,d⟩
def AvZ(t base:Nat)(w:World)(k:Nat):Prop:=base<=k/\∃cs,IsC w k cs t
theorem AvZ.next(h:Frm (AvZ t base w) w W)(k:Frm (fun k=>k=B1\/AvZ t base W k) W W')(e:w.heap.size<=B1):Frm (AvZ t base w) w W':=by
 refine⟨k.os.trans h.os,k.tape.trans h.tape,k.output.trans h.output,lT h.size k.size,fun x b a=>?_⟩;refine(k.block x (lL b h.size) fun q=>?_).trans (h.block x b a);rcases q with q | ⟨d,cs,c⟩
 ·omega
 ·refine a ⟨d,cs,?_⟩
  unfold IsC at c |-;rw[<-h.block x b a];exact c
theorem AvZ.ec(h:Frm (fun k=>k=B1\/AvZ t base w k) w W)(k:Frm (fun k=>k=B1\/AvZ t base W k) W W'):Frm (fun k=>k=B1\/AvZ t base w k) w W':=by
 refine⟨k.os.trans h.os,k.tape.trans h.tape,k.output.trans h.output,lT h.size k.size,fun x b a=>?_⟩;refine(k.block x (lL b h.size) fun q=>?_).trans (h.block x b a);rcases q with q | ⟨d,cs,c⟩
 ·exact a (.inl q)
 ·refine a (.inr ⟨d,cs,?_⟩)
  unfold IsC at c |-;rw[<-h.block x b a];exact c
structure AvP(w:World)(base:Nat)(l:List VW)(e:Ending)(w':World):Prop where
 ex:∃u,e=.returned u/\yW.Own base w' u l
 ae:Frm (AvZ 48 base w) w w'
theorem aHE{F:Fence}{n:Nat}{P:Program}{c:Code}{K:Act->World->Prop}{Q:Exit->Act->World->Prop}{a:Act}(h:c.wpIn F n P (Exit.then K (fun _ _ _=>False)) a w):c.wpIn F n P (Exit.then K Q) a w:=
 Code.wpIn_mono (fun e a w q=>by cases e<;>first | exact q | exact q.elim) h
theorem pX(F:Fence)(n:Nat)(hF:nJ F Tryz.prog)(db:F.round=none)(hn:5<=n)
  (w:World) (ρ:Nat->Nat) (P:Nat) (A:Adr) (f:fZ) (J:List aS) (b:Nat) (hS:St w ρ P A f J) (hz:Sz K f) (d:Nd) (hd:f.n b=some d) (Bq:d.1=2->∀e∈d.2,0<=e.2.2)
  (base:Nat) (nm:base<=w.heap.size) (hρ:∀k,base<=k->ρ k=0) (M:Option Addr) (H:Nat) (l:List VW) (am:yW.Own base w (.slice M l.length H) l) (dp:Int) (hdp:0<=dp/\dp<=90000) (V:Nat->List VW) (CZ:l.length<=900000) (L:List VW) (hL:l++[((b:Int),dp,d.1,(d.2.length:Int),cu f b)]=L)
  (IH:∀(pre:List Nat) (x:Nat) (post:List Nat),kids d=pre++x :: post->∀(W:World) (va:Option Addr) (vc:Nat),St W ρ P A f J->base<=W.heap.size->yW.Own base W (.slice va (L++pre.flatMap V).length vc) (L++pre.flatMap V)->
   Calls Tryz.prog 21 #[pT P 0,.slice va (L++pre.flatMap V).length vc,iV (x:Int),iV (dp+1)] W (AvP W base (L++(pre++[x]).flatMap V))):
  CallsIn F n Tryz.prog 21 #[pT P 0,.slice M l.length H,iV b,iV dp] w (AvP w base (L++(kids d).flatMap V)):=by
 have qe:1<=n:=by omega
 have qu:∀k,F.fn k:=hF.fn;have DC:=aNP;have gh:d.2.length<=10:=hz.ai b d hd;have d5:b<f.c.length:=hz.lt b d hd;have Yc:(b:Int) <(f.c.length:Int):=by omega
 have hdw:IntKind.i64.wrap (dp+1)=dp+1:=IntWalk.i64_in _ ⟨by omega,by omega⟩;obtain⟨B0,dq⟩:=eZ (w.heap.size);obtain⟨w1,bx⟩:=eZ (w.alloc (.cells #[pT P 0] 61));have ao:=bAl bx;have x0:Boxed w1 B0 61 (pT P 0):=by rw[<-bx,<-dq];exact Boxed.new _ _ _
 obtain⟨B1,fe⟩:=eZ (w1.heap.size);obtain⟨w2,de⟩:=eZ (w1.alloc (.cells #[.slice M l.length H] 37));have be:=bAl de;have x1:Boxed w2 B1 37 (.slice M l.length H):=by rw[<-de,<-fe];exact Boxed.new _ _ _
 obtain⟨B2,c9⟩:=eZ (w2.heap.size);obtain⟨c,di⟩:=eZ (w2.alloc (.cells #[iV dp] 2));have G:=bAl di;have x2:Boxed c B2 2 (iV dp):=by rw[<-di,<-c9];exact Boxed.new _ _ _
 have u:B1=B0+1:=by rw[<-fe,<-bx,<-dq];simp
 have z:B2=B0+2:=by rw[<-c9,<-de];simp;omega
 have I:c.heap.size=B0+3:=by rw[<-di];simp;omega
 have Aw:Bl w c:=(ao.trans (be.mono ao.size)).trans (G.mono (lT ao.size be.size));have y0:Boxed c B0 61 (pT P 0):=(G.block _ (by omega)).trans ((be.block _ (by omega)).trans x0);have y1:Boxed c B1 37 (.slice M l.length H):=(G.block _ (by omega)).trans x1;have cx:=hS.below Aw;obtain⟨ja3,jp3,jj3,ni,vd⟩:=id cx;obtain⟨p3,p4,p5,p7⟩:=ni.cells;have jy:=ni.count d5;obtain⟨q,hφ,yw,yu,C,hN⟩:=ni.nd b d hd;have ig:(Instr.lookup 64 (.map (some A.m)) (iV b) false).run Tryz.prog c=.ok (pT q 0) c:=by
  have:=ni.hm.lookup b (by have:=hz.al;omega)
  rw[hφ]at this;simpa only[fB,Option.map_some] using this
 have YA:P<base:=Nat.lt_of_not_le fun q=>by have:=hρ P q;rw[ni.rP]at this;omega
 have nn:A.c<base:=Nat.lt_of_not_le fun q=>by have:=hρ _ q;rw[ni.rc]at this;omega
 have He:q<base:=Nat.lt_of_not_le fun e=>by have:=hρ _ e;rw[yw]at this;unfold cK at this;omega
 have rk:∀g,A.α b=some g->g<base:=fun g hg=>Nat.lt_of_not_le fun e=>by have:=hρ _ e;rw[yu g hg]at this;unfold cI at this;omega
 obtain⟨na,nc,hna,BN⟩:∃na nc,adr (A.α b)=na/\d.2.length+C.length=nc:=⟨_,_,rfl,rfl⟩;have n0:c.cell? (aD q 0)=some (iV d.1):=by rw[hN.box.cell];rfl
 have n1:c.cell? (aD q 1)=some (.slice na d.2.length nc):=by rw[hN.box.cell,<-hna,<-BN];rfl
 have k0:=y0.cell;have k1:=y1.cell;have k2:=x2.cell;have HK:Hid (∀W:World,(∀k,k<c.heap.size->(k<base\/k=B0\/k=B1\/k=B2)->W.heap[k]?=c.heap[k]?)->W.cell? (aD B0 0)=some (pT P 0)/\W.cell? (aD B1 0)=some (.slice M l.length H)/\W.cell? (aD B2 0)=some (iV dp)/\W.cell? (aD q 0)=some (iV d.1)/\W.cell? (aD q 1)=some (.slice na d.2.length nc)/\W.cell? (aD P 4)=some (sL A.c 0 f.c.length f.c.length)/\W.cell? (aD A.c b)=some (iV (cu f b))):=fun W hW=>by
  have hc:∀g o,g<base\/g=B0\/g=B1\/g=B2->W.cell? (aD g o)=c.cell? (aD g o):=fun g o hg=>by
   have:=hW g (by omega) hg
   simp[World.cell?,this]
  exact⟨(hc _ _ (by omega)).trans k0,(hc _ _ (by omega)).trans k1,(hc _ _ (by omega)).trans k2,(hc _ _ (.inl He)).trans n0,(hc _ _ (.inl He)).trans n1,(hc _ _ (.inl YA)).trans p4,(hc _ _ (.inl nn)).trans jy⟩
 have Z:=aA (aI u (aI z I));have i:=HK.out c.drew fun _ _ _=>rfl;have DH:=am.below Aw;refine callsIn_of_wp_marks Tryz.func21 rfl (hF.fn _) ?_ db;simp only[Tryz.ntmps21,List.size_toArray,List.length_cons,List.length_nil,Nat.reduceAdd,Nat.reduceSub,Array.replicate_succ,Array.replicate_zero,List.push_toArray,List.append_toArray,List.nil_append,List.cons_append];clear u z I;gi_wp2;refine aHE ?_;refine gK (fun W=>W.cell? (aD B0 0)=some (pT P 0)/\W.cell? (aD B1 0)=some (.slice M l.length H)/\W.cell? (aD B2 0)=some (iV dp)/\W.cell? (aD q 0)=some (iV d.1)/\W.cell? (aD q 1)=some (.slice na d.2.length nc)/\W.cell? (aD P 4)=some (sL A.c 0 f.c.length f.c.length)/\W.cell? (aD A.c b)=some (iV (cu f b))) 22 hF (fun _=>by omega) (by kernel_rfl) ?_ (by kernel_rfl) ?_
 ·rintro⟨a,w,h⟩;exact h
 refine tJ 0 17 (.slice M l.length H) rfl i ?_;refine tJ 1 18 (iV b) rfl i ?_;refine tJ 2 19 (iV dp) rfl i ?_;refine tJ 3 20 (pT q 0) rfl i ?_;refine tJ 4 21 (pT q 0) rfl i ?_;refine tJ 5 22 (pT q 0) rfl i ?_;refine tJ 6 23 (iV d.1) rfl i ?_;refine tJ 7 24 (pT q 0) rfl i ?_;refine tJ 8 25 (pT q 0) rfl i ?_;refine tJ 9 26 (pT q 1) rfl i ?_;refine tJ 10 27 (.slice na d.2.length nc) rfl i ?_;refine tJ 11 28 (iV d.2.length) rfl i ?_;refine tJ 12 29 (pT P 0) rfl i ?_;refine tJ 13 30 (pT P 0) rfl i ?_;refine tJ 14 31 (pT P 4) rfl i ?_;refine tJ 15 32 (sL A.c 0 f.c.length f.c.length) rfl i ?_;refine tJ 16 33 (iV b) rfl i ?_;refine tJ 17 34 (pT A.c b) rfl i ?_;refine tJ 18 35 (iV (cu f b)) rfl i ?_;refine tJ 19 36 (.agg #[iV b,iV dp,iV d.1,iV d.2.length,iV (cu f b)]) rfl i ?_;simp only[Act.put,sB,sZ,sS];refine oE 20 rfl fun K2 ae=>?_;go_simp;obtain⟨ag,oj,WZ,Hj,P3⟩:=am;obtain⟨B3,QQ⟩:=exH (c.heap.size);obtain⟨w4,AK⟩:=exH ((c.alloc (.cells #[iV b,iV dp,iV d.1,iV d.2.length,iV (cu f b)] 48)).drew);rw[<-AK.out,<-QQ.out];have it:Bl c w4:=by rw[AK.out];exact((bQ _ c).alloc (nR _) _).drew
 have Dq:yW.Sl w4 (sL B3 0 1 1) [((b:Int),dp,d.1,(d.2.length:Int),cu f b)]:=by rw[AK.out,QQ.out];exact(Ely.Sl.new (Y:=yW) c ((b:Int),dp,d.1,(d.2.length:Int),cu f b) rfl).below (bQ _ _).drew
 have te:=Aw.trans (it.mono Aw.size);have Ur:=aA WZ;clear WZ;have Ol:=Hj.ae (Frm.aa (S:=fun _=>False) te) fun _ _=>id;have FO:=HK.out w4 fun k B _=>it.block k B;refine ae _ _ (fun _=>FO) ?_;clear ae K2 i;obtain⟨u',y,a',E,hr,O2,O,Q,R⟩:=yW.append ag l oj [((b:Int),dp,d.1,(d.2.length:Int),cu f b)] _ _ Ol Dq (by simp;omega);rw[<-lP,hL]at O2;rw[hL]at O;refine oE 21 rfl fun K2 ae=>?_;refine kJ (.tmp 17) (.tmp 37) _ _ (by rfl) (.slice M l.length H) (sL B3 0 1 1) (by rfl) (by rfl) u' y (by rw[Ur.out];exact hr _) ?_;have CR:∀g,ag=some g->base<=g/\g<B0:=fun g e=>⟨P3 g e,by rw[<-dq];exact(Hj.arr g e).lt⟩;have BA:∀k,k<c.heap.size->(k<base\/k=B0\/k=B1\/k=B2)->y.heap[k]?=c.heap[k]?:=fun k B hx=>by
  obtain⟨u,z,I⟩:=Z.out;exact(R.block k (lL B it.size) fun e=>by have:=CR k e;omega).trans (it.block k B)
 have qg:=HK.out y BA;refine ae _ _ (fun _=>qg) ?_;clear ae K2 FO;obtain⟨va,vc,hva⟩:∃va vc,u'=.slice va L.length vc:=⟨_,_,O2⟩;have Ei:yW.Own base y (.slice va L.length vc) L:=⟨a',E,by rw[<-hva];exact O2,O,fun g e=>(Q g e).elim (fun q=>(CR g q).1) fun q=>lT (lT nm te.size) q⟩;have NQ:∀g,a'=some g->g≠B1:=fun g e=>by
  obtain⟨u,z,I⟩:=Z.out;have:=it.size;rcases Q g e with q | q
  ·have:=CR g q;omega
  ·omega
 subst hva;have Up:=aA O2;clear O2;simp only[Act.put,sB,sZ,sS];have z1:Boxed y B1 37 (.slice M l.length H):=(BA B1 (by have:=Z.out;omega) (by omega)).trans y1;have Ic:=z1.frozen;refine oE 22 rfl fun K2 ae=>?_;go_simp;refine ae _ _ (fun q=>absurd rfl q) ?_;clear ae K2;refine aT (by kernel_rfl) ?_ _;obtain⟨u,z,I⟩:=Z.out;obtain⟨j,so⟩:=eZ (y.setCell (aD B1 0) (.slice va L.length vc));rw[so];have Iv:j.heap.size=y.heap.size:=by rw[<-so];exact cR (g:=B1) [_] y 0
 have Ey:∀k,k≠B1->j.heap[k]?=y.heap[k]?:=fun k B=>by rw[<-so];exact aU y _ B
 have NB:Frm (fun k=>base<=k) c y:=(Frm.aa it).trans (R.wide fun k _ e=>(CR k e).1);have Ji:Frm (fun k=>base<=k) c j:=by rw[<-so];exact NB.trans (Frm.set y (p:=aD B1 0) (show base<=B1 by omega) _)
 have M8:Frm (AvZ 48 base w) w j:=by
  rw[<-so];exact((Frm.aa te).next R fun x hx e=>⟨(CR x e).1,_,Hj.arr x e⟩).put _ _ fun q=>by exfalso;have q':B1<w.heap.size:=q;omega
 have t0:Boxed j B0 61 (pT P 0):=(Ey B0 (by omega)).trans ((BA B0 (by omega) (by omega)).trans y0);have t2:Boxed j B2 2 (iV dp):=(Ey B2 (by omega)).trans ((BA B2 (by omega) (by omega)).trans x2);have t1:Boxed j B1 37 (.slice va L.length vc):=by rw[<-so];exact z1.set _
 have VP:yW.Own base j (.slice va L.length vc) L:=by
  rw[<-so];exact⟨a',E,Up.out,O.ae (Frm.set (S:=fun k=>k=B1) y (p:=aD B1 0) rfl _) NQ,fun g e=>(Q g e).elim (fun q=>(CR g q).1) fun q=>lT (lT nm te.size) q⟩
 have Zs:c.heap.size<=j.heap.size:=Ji.size;clear qg hr Up O Q R Ei NQ Dq Ol AK QQ BA Ey Ic z1 so it te NB Ur Iv HK ig p3 p4 p5 p7 jy n0 n1 k0 k1 k2 u z I;gi_wp2_with (gi_at_call 38;refine(kU F (n-1) (hF.fn _) db _ _).mono ?_;rintro e w' ⟨rfl,rfl⟩);obtain⟨u,z,I⟩:=Z.out;have GX:Bl j (j.alloc (.cells #[pT q 0] 93)):=(bQ _ j).alloc (nR _) _;have Gt:IsC (j.alloc (.cells #[pT q 0] 93)) j.heap.size #[pT q 0] 93:=IsC.new _ _ _;have Cq:(j.alloc (.cells #[pT q 0] 93)).heap.size=j.heap.size+1:=by simp
 generalize R1:j.alloc (.cells #[pT q 0] 93)=m at *;have CG:Frm (fun k=>base<=k) c m:=Ji.trans (Frm.aa GX);have M9:Frm (AvZ 48 base w) w m:=M8.trans (Frm.aa GX);have Re:aN m q d (A.α b) C:=hN.ae CG (by omega) (fun g e=>by have:=rk g e;omega);have jq:St m ρ P A f J:=cx.ae (CG.wide fun k _ e=>hρ k e);have v0:Boxed m B0 61 (pT P 0):=(GX.block _ (by omega)).trans t0;have v1:Boxed m B1 37 (.slice va L.length vc):=(GX.block _ (by omega)).trans t1;have v2:Boxed m B2 2 (iV dp):=(GX.block _ (by omega)).trans t2;have Px:=VP.below GX;have Do:q<m.heap.size:=Re.box.lt;have Ye:base<=m.heap.size:=by omega
 have hwB:w.heap.size<=B1:=by omega
 clear cx ni vd hN Ji M8 t0 t1 t2 VP R1 GX Aw ao be G bx de di x0 x1 x2 y0 y1 DH hS hL DC hφ yw yu hna BN Hj CR P3 u z I;refine jJ db qe (gf:=63) (lb:=#[pT j.heap.size 0]) rfl (qu _) (enters_of Tryz.func63 (by kernel_rfl) rfl)
  (jT F (n-1) (qu _) db (by omega) j.heap.size q d (A.α b) C gh Bq m Gt Re) KpC.trans (KpC.put Gt.lt Do (fun g e=>(Re.arr g e).1.lt)) (bQ _ _) rfl
  (fun pre W=>∃va vc,Boxed W B1 37 (.slice va (L++pre.flatMap V).length vc)/\yW.Own base W (.slice va (L++pre.flatMap V).length vc) (L++pre.flatMap V)/\Frm (fun k=>k=B1\/AvZ 48 base m k) m W)
  ?_ ⟨va,vc,by simpa using v1,by simpa using Px,Frm.refl _ _⟩ ?_ ?_
 ·rintro pre X Y row ⟨va,vc,v,N,s⟩ hg ko
  have BN:∀x,row=some x->m.heap.size<=x:=fun x e=>(ko x e).1;have u:=Z.out;exact⟨va,vc,v.kept hg fun e=>by have:=BN _ e.symm;omega,N.grow hg fun r e=>(ko r e).2,s.own hg BN⟩
 ·intro l' pre x W hi mj
  gi_wp2
  refine⟨trivial,?_⟩;clear hi;rintro W ⟨va,vc,v,N,s⟩;obtain⟨post,Lb⟩:=mj;obtain⟨u,z,I⟩:=Z.out;have BH:kids d=pre++x :: post:=by rw[<-Lb];simp
  have Py:St W ρ P A f J:=jq.ae (s.wide fun k _ e=>hρ k (by rcases e with e | e;omega;exact e.1));have Hl:m.heap.size<=W.heap.size:=s.size;have NI:=IH pre x post BH W va vc Py (by omega) N;have r0:Boxed W B0 61 (pT P 0):=(s.block _ v0.lt fun e=>by
   rcases e with e | ⟨_,cs,e⟩
   ·omega
   ·exact(show IsC m B0 _ _ from v0).ab e (by decide) rfl).trans v0
  have r2:Boxed W B2 2 (iV dp):=(s.block _ v2.lt fun e=>by
   rcases e with e | ⟨_,cs,e⟩
   ·omega
   ·exact(show IsC m B2 _ _ from v2).ab e (by decide) rfl).trans v2
  have rn:IsC W j.heap.size #[pT q 0] 93:=Gt.ae s fun e=>by
   rcases e with e | ⟨_,cs,e⟩
   ·omega
   ·exact Gt.ab e (by decide) rfl
  have j0:=r0.cell;have j1:=v.cell;have j2:=r2.cell;have HH:=aA (aI v s);have AJ:=aA Hl;have HR:=aA rn;obtain⟨LL,Rc⟩:=eZ (L++pre.flatMap V);have XL:=aA Rc;rw[Rc]at NI j1;clear v N s Lb BH Py Hl rn Rc u z I Cq;gi_wp2;refine⟨fun _=>by omega,(CallsIn.inRound l' (hF.calls _ _ _ _ _ NI)).mono ?_⟩;rintro e W2 ⟨⟨u2,rfl,Eh⟩,dz⟩;obtain⟨T,U,rfl⟩:=Eh.sl.len;obtain⟨v,s⟩:=HH.out;rw[XL.out]at v;have TT:∀{k:Nat} {cs:Array Value} {t:TypeId},IsC W k cs t->t≠48->¬AvZ 48 base W k:=fun B ht e=>by
   obtain⟨_,cs,e⟩:=e;exact B.ab e ht rfl
  have q4:Boxed W2 B1 37 (.slice va LL.length vc):=(dz.block B1 v.lt (TT (show IsC W B1 _ _ from v) (by decide))).trans v;have q5:=q4.cell;have q6:=q4.frozen;have Hl:=AJ.out;have rn:=HR.out;obtain⟨N2,uf⟩:=eZ (L++(pre++[x]).flatMap V);rw[uf]at Eh;have L1:=aA uf;rw[uf];obtain⟨W3,C7⟩:=eZ (W2.setCell (aD B1 0) (.slice T N2.length U));have i5:∀k,k<W.heap.size->k≠B1->¬AvZ 48 base W k->W3.heap[k]?=W.heap[k]?:=fun k B u z=>by
   rw[<-C7];exact(aU W2 _ u).trans (dz.block k B z)
  have aw:W.heap.size<=W3.heap.size:=by rw[<-C7];exact lT dz.size (Nat.le_of_eq (cR (g:=B1) [_] W2 0).symm)
  have mf:KeepsFrom m.heap.size W W3:=⟨aw,fun k o B AY ho=>(i5 k (Array.getElem?_eq_some_iff.1 AY).1 (by have:=v1.lt;omega) fun e=>by
   obtain⟨_,cs,e⟩:=e;have e':W.heap[k]?=some (.cells cs 48 (0,0)):=e;rw[AY]at e';cases e';cases ho).trans AY⟩
  have au:∀k,k<base->k≠B1/\¬AvZ 48 base W k:=fun k B=>⟨by omega,fun e=>by have:=e.1;omega⟩;have yi:KpC j.heap.size q (A.α b) W W3:=⟨aw,i5 _ rn.lt (by have:=Z.out;omega) (TT rn (by decide)),i5 q (by omega) (au q He).1 (au q He).2,fun g e=>i5 g (by have:=rk g e;omega) (au g (rk g e)).1 (au g (rk g e)).2⟩;have G:Boxed W3 B1 37 (.slice T N2.length U):=by rw[<-C7];exact q4.set _
  have sd:yW.Own base W3 (.slice T N2.length U) N2:=by
   obtain⟨a9,j9,z1,z2,z3⟩:=Eh;rw[<-C7];exact⟨a9,j9,z1,z2.ae (Frm.set (S:=fun k=>k=B1) W2 (p:=aD B1 0) rfl _) fun g e=>((show IsC W2 B1 _ _ from q4).ab (z2.arr g e) (by decide)).symm,z3⟩
  have bo:Frm (fun k=>k=B1\/AvZ 48 base m k) m W3:=by
   rw[<-C7];exact AvZ.ec s ((dz.wide fun k _ e=>.inr e).trans (Frm.set W2 (p:=aD B1 0) (.inl rfl) _))
  have HF:=aA (aI mf (aI yi (aI G (aI sd bo))));clear mf yi G sd bo i5 au TT dz Eh q4 v s aw uf NI rn Hl;gi_wp2;obtain⟨mf,yi,G,sd,bo⟩:=HF.out;rw[<-L1.out]at G sd;exact⟨mf,yi,T,U,G,sd,bo⟩
 ·rintro D W hD ⟨va,vc,v,N,s⟩ hK
  have j1:=v.cell;have HF:=aA (aI N (aI s hK));clear N s hK;gi_wp2;obtain⟨N,s,hK⟩:=HF.out;have bh:W.grownBy (W.putObj D (.deferred none)) (some D):=grownBy_putObj' W D _;refine⟨by simp,.inl ⟨_,_,rfl,run_takeDeferred hK,?_⟩⟩;refine⟨_,by simp[results,Tryz.f21,go_sem],⟨⟨_,rfl,N.grow bh fun r e=>by cases e;exact⟨_,hK,rfl⟩⟩,(AvZ.next M9 s hwB).own bh fun x e=>by cases e;have:=M9.size;omega⟩⟩
theorem aMI{es pre post:List Nat}{x:Nat}(h:es=pre++x :: post):pre.length<es.length/\es.getD pre.length 0=x:=by
 subst h;simp
theorem nK{K:Int}{f:fZ}(z:IC f)(t:Sz K f)(ρ:Nat->Nat)(P:Nat)(A:Adr)(J:List aS)(base:Nat)(u:∀k,base<=k->ρ k=0):
  ∀(h b:Nat) (lo hi:OB) (dp:Int) (w:World) (ua:Option Addr) (cp:Nat) (l:List VW),Ok f.n h b lo hi->St w ρ P A f J->base<=w.heap.size->yW.Own base w (.slice ua l.length cp) l->l.length+(bD f h b dp).length<=900000->0<=dp->dp+h<=90000->
   Calls Tryz.prog 21 #[pT P 0,.slice ua l.length cp,iV b,iV dp] w (AvP w base (l++bD f h b dp))
 | 0,b,lo,hi,dp,w,ua,cp,l,r,p,v,s,M,o,H=>by
  obtain⟨es,d,R,_⟩:=r;have g:kids (1,es)=[]:=by simp[kids]
  have:=(callsIn_wide (n:=5)).1 (pX (K:=K) Fence.wide 5 (nJ.wide _) rfl (nR _) w ρ P A f J b p t (1,es) d (fun q=>by cases q) base v u ua cp l s dp ⟨o,by omega⟩ (fun _=>[]) (by omega) _ rfl (fun a x i e=>by rw[g]at e;simp at e))
  rw[g,List.flatMap_nil,List.append_nil]at this;have e:bD f 0 b dp=[((b:Int),dp,1,(es.length:Int),cu f b)]:=by simp only[bD,dP,cG d]
  rw[e];exact this
 | h+1,b,lo,hi,dp,w,ua,cp,l,r,p,v,s,M,o,H=>by
  obtain⟨es,d,R,V,X,Q⟩:=r;have g:kids (2,es)=es.map ch:=by simp[kids]
  have E:∀e∈es,0<=e.2.2:=fun e L=>by
   obtain⟨j,N,rfl⟩:=cH L;have:=z.ar d N;omega
  have e:bD f (h+1) b dp=((b:Int),dp,2,(es.length:Int),cu f b) ::(kids (2,es)).flatMap fun c=>bD f h c (dp+1):=by
   rw[g];simp only[bD,dP,cG d,List.flatMap_map]
  have U:((kids (2,es)).flatMap fun c=>bD f h c (dp+1)).length+1=(bD f (h+1) b dp).length:=by rw[e];simp
  have:=(callsIn_wide (n:=5)).1 (pX (K:=K) Fence.wide 5 (nJ.wide _) rfl (nR _) w ρ P A f J b p t (2,es) d (fun _=>E) base v u ua cp l s dp ⟨o,by omega⟩ (fun c=>bD f h c (dp+1)) (by omega) _ rfl (fun a x i y W S T B C D=>by
   have m:=aMI y;rw[g,List.length_map]at m;have O:x=kd es a.length:=by
    rw[<-m.2];simp[kd,gD,m.1]
   have G:=congrArg (fun l=>(List.flatMap (fun c=>bD f h c (dp+1)) l).length) y;simp only[List.flatMap_append,List.flatMap_cons,lP]at G;have I:=nK z t ρ P A J base u h x _ _ (dp+1) W S T _ (by rw[O];exact(Q a.length m.1).2) B C D (by simp only[lP,List.length_cons,List.length_nil];omega) (by omega) (by omega);have F:(a++[x]).flatMap (fun c=>bD f h c (dp+1))=a.flatMap (fun c=>bD f h c (dp+1))++bD f h x (dp+1):=by simp
   rw[F,<-List.append_assoc];exact I))
  rw[e,show l++((b:Int),dp,2,(es.length:Int),cu f b) ::(kids (2,es)).flatMap (fun c=>bD f h c (dp+1))=(l++[((b:Int),dp,2,(es.length:Int),cu f b)])++(kids (2,es)).flatMap (fun c=>bD f h c (dp+1)) by simp];exact this
