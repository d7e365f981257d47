import Derived.Test.YtmpagpeenjddgaaGreatSq27
set_option maxHeartbeats 9999999
set_option maxRecDepth 99999
set_option linter.all false
namespace Go.Proofs.YtmpagpeenjddgaaGreat
open Go.RowKit Go.Shelf Fo
variable{K:Int}{B1 base t:Nat}{W W' w:World}
attribute [local go_sem] Oper.semAt_some
theorem Ely.Own.grow{α:Type}{Y:Ely α}{w':World}{u:Value}{l:List α}{row:Option Nat}(h:Y.Own base w u l)(f:w.grownBy w' row)(hr:∀r,row=some r->∃o:Obj,w.heap[r]?=some o/\o.isCells=false):Y.Own base w' u l:=by
 obtain⟨a,b,rfl,c,d⟩:=h;exact⟨a,b,rfl,⟨fun g e=>(c.arr g e).own f hr,c.nil,c.small⟩,d⟩
def AvZ(t base:Nat)(w:World)(k:Nat):Prop:=base<=k/\∃cs,IsC w k cs t
theorem AvZ.next(h:Frm (AvZ t base w) w W)(k:Frm (fun k=>k=B1\/AvZ t base W k) W W')(e:w.heap.size<=B1):Frm (AvZ t base w) w W':=by
 refine⟨k.os.trans h.os,k.tape.trans h.tape,k.output.trans h.output,lT h.size k.size,fun x b a=>?_⟩;refine(k.block x (lL b h.size) fun q=>?_).trans (h.block x b a);rcases q with q | ⟨d,cs,c⟩
 ·omega
 ·refine a ⟨d,cs,?_⟩
  unfold IsC at c |-;rw[<-h.block x b a];exact c
theorem AvZ.dz(h:Frm (fun k=>k=B1\/AvZ t base w k) w W)(k:Frm (fun k=>k=B1\/AvZ t base W k) W W'):Frm (fun k=>k=B1\/AvZ t base w k) w W':=by
 refine⟨k.os.trans h.os,k.tape.trans h.tape,k.output.trans h.output,lT h.size k.size,fun x b a=>?_⟩;refine(k.block x (lL b h.size) fun q=>?_).trans (h.block x b a);rcases q with q | ⟨d,cs,c⟩
 ·exact a (.inl q)
 ·refine a (.inr ⟨d,cs,?_⟩)
  unfold IsC at c |-;rw[<-h.block x b a];exact c
structure AvP(w:World)(base:Nat)(l:List VW)(e:Ending)(w':World):Prop where
 ex:∃u,e=.returned u/\yW.Own base w' u l
 ae:Frm (AvZ 48 base w) w w'
theorem aHC{F:Fence}{n:Nat}{P:Program}{c:Code}{K:Act->World->Prop}{Q:Exit->Act->World->Prop}{a:Act}(h:c.wpIn F n P (Exit.then K (fun _ _ _=>False)) a w):c.wpIn F n P (Exit.then K Q) a w:=
 Code.wpIn_mono (fun e a w q=>by cases e<;>first | exact q | exact q.elim) h
theorem pW(F:Fence)(n:Nat)(hF:nI F Tryz.prog)(dq:F.round=none)(hn:5<=n)
  (w:World) (ρ:Nat->Nat) (P:Nat) (A:Adr) (f:fZ) (J:List aR) (b:Nat) (hS:St w ρ P A f J) (hz:Sz K f) (d:Nd) (hd:f.n b=some d) (Au:d.1=2->∀e∈d.2,0<=e.2.2)
  (base:Nat) (lu:base<=w.heap.size) (hρ:∀k,base<=k->ρ k=0) (N:Option Addr) (I:Nat) (l:List VW) (ao:yW.Own base w (.slice N l.length I) l) (m:Int) (ZZ:0<=m/\m<=90000) (V:Nat->List VW) (DT:l.length<=900000) (L:List VW) (hL:l++[((b:Int),m,d.1,(d.2.length:Int),cu f b)]=L)
  (IH:∀(pre:List Nat) (x:Nat) (post:List Nat),kids d=pre++x :: post->∀(W:World) (va:Option Addr) (vc:Nat),St W ρ P A f J->base<=W.heap.size->yW.Own base W (.slice va (L++pre.flatMap V).length vc) (L++pre.flatMap V)->
   Calls Tryz.prog 21 #[.pointer (some ⟨P,0,none⟩),.slice va (L++pre.flatMap V).length vc,.int .i64 (x:Int),.int .i64 (m+1)] W (AvP W base (L++(pre++[x]).flatMap V))):
  CallsIn F n Tryz.prog 21 #[.pointer (some ⟨P,0,none⟩),.slice N l.length I,.int .i64 b,.int .i64 m] w (AvP w base (L++(kids d).flatMap V)):=by
 have pj:1<=n:=by omega
 have qg:∀k,F.fn k:=hF.fn;have Cq:=aNC;have gd:d.2.length<=10:=hz.ai b d hd;have eX:b<f.c.length:=hz.lt b d hd;have Xd:(b:Int) <(f.c.length:Int):=by omega
 have Za:IntKind.i64.wrap (m+1)=m+1:=IntWalk.i64_in _ ⟨by omega,by omega⟩;obtain⟨B0,dz⟩:=eZ (w.heap.size);obtain⟨w1,ci⟩:=eZ (w.alloc (.cells #[.pointer (some ⟨P,0,none⟩)] 61));have au:=bAl ci;have x0:Boxed w1 B0 61 (.pointer (some ⟨P,0,none⟩)):=by rw[<-ci,<-dz];exact Boxed.new _ _ _
 obtain⟨B1,fe⟩:=eZ (w1.heap.size);obtain⟨w2,dh⟩:=eZ (w1.alloc (.cells #[.slice N l.length I] 37));have bh:=bAl dh;have x1:Boxed w2 B1 37 (.slice N l.length I):=by rw[<-dh,<-fe];exact Boxed.new _ _ _
 obtain⟨B2,di⟩:=eZ (w2.heap.size);obtain⟨c,du⟩:=eZ (w2.alloc (.cells #[.int .i64 m] 2));have H:=bAl du;have x2:Boxed c B2 2 (.int .i64 m):=by rw[<-du,<-di];exact Boxed.new _ _ _
 have v:B1=B0+1:=by rw[<-fe,<-ci,<-dz];simp
 have B:B2=B0+2:=by rw[<-di,<-dh];simp;omega
 have M:c.heap.size=B0+3:=by rw[<-du];simp;omega
 have lr:Bl w c:=(au.trans (bh.mono au.size)).trans (H.mono (lT au.size bh.size));have y0:Boxed c B0 61 (.pointer (some ⟨P,0,none⟩)):=(H.block _ (by omega)).trans ((bh.block _ (by omega)).trans x0);have y1:Boxed c B1 37 (.slice N l.length I):=(H.block _ (by omega)).trans x1;have db:=hS.below lr;obtain⟨ja3,jp3,jj3,mz,uo⟩:=id db;obtain⟨p3,p4,p5,p7⟩:=mz.cells;have kq:=mz.count eX;obtain⟨q,hφ,yg,ye,E,hN⟩:=mz.nd b d hd;have g8:(Instr.lookup 64 (.map (some A.m)) (.int .i64 b) false).run Tryz.prog c=.ok (.pointer (some ⟨q,0,none⟩)) c:=by
  have:=mz.hm.lookup b (by have:=hz.al;omega)
  rw[hφ]at this;simpa only[eV,Option.map_some] using this
 have XB:P<base:=Nat.lt_of_not_le fun q=>by have:=hρ P q;rw[mz.rP]at this;omega
 have sa:A.c<base:=Nat.lt_of_not_le fun q=>by have:=hρ _ q;rw[mz.rc]at this;omega
 have Gp:q<base:=Nat.lt_of_not_le fun e=>by have:=hρ _ e;rw[yg]at this;unfold cJ at this;omega
 have q8:∀g,A.α b=some g->g<base:=fun g hg=>Nat.lt_of_not_le fun e=>by have:=hρ _ e;rw[ye g hg]at this;unfold cG at this;omega
 obtain⟨na,nc,hna,Ar⟩:∃na nc,adr (A.α b)=na/\d.2.length+E.length=nc:=⟨_,_,rfl,rfl⟩;have n0:c.cell? ⟨q,0,none⟩=some (.int .i64 d.1):=by rw[hN.box.cell];rfl
 have n1:c.cell? ⟨q,1,none⟩=some (.slice na d.2.length nc):=by rw[hN.box.cell,<-hna,<-Ar];rfl
 have k0:=y0.cell;have k1:=y1.cell;have k2:=x2.cell;have HK:Hid (∀W:World,(∀k,k<c.heap.size->(k<base\/k=B0\/k=B1\/k=B2)->W.heap[k]?=c.heap[k]?)->W.cell? ⟨B0,0,none⟩=some (.pointer (some ⟨P,0,none⟩))/\W.cell? ⟨B1,0,none⟩=some (.slice N l.length I)/\W.cell? ⟨B2,0,none⟩=some (.int .i64 m)/\W.cell? ⟨q,0,none⟩=some (.int .i64 d.1)/\W.cell? ⟨q,1,none⟩=some (.slice na d.2.length nc)/\W.cell? ⟨P,4,none⟩=some (.slice (some ⟨A.c,0,none⟩) f.c.length f.c.length)/\W.cell? ⟨A.c,b,none⟩=some (.int .i64 (cu f b))):=fun W hW=>by
  have hc:∀g o,g<base\/g=B0\/g=B1\/g=B2->W.cell? ⟨g,o,none⟩=c.cell? ⟨g,o,none⟩:=fun g o hg=>by
   have:=hW g (by omega) hg
   simp[World.cell?,this]
  exact⟨(hc _ _ (by omega)).trans k0,(hc _ _ (by omega)).trans k1,(hc _ _ (by omega)).trans k2,(hc _ _ (.inl Gp)).trans n0,(hc _ _ (.inl Gp)).trans n1,(hc _ _ (.inl XB)).trans p4,(hc _ _ (.inl sa)).trans kq⟩
 have HE:=aA (aI v (aI B M));have i:=HK.out c.drew fun _ _ _=>rfl;have Cu:=ao.below lr;refine callsIn_of_wp_marks Tryz.func21 rfl (hF.fn _) ?_ dq;simp only[Tryz.ntmps21,List.size_toArray,List.length_cons,List.length_nil,Nat.reduceAdd,Nat.reduceSub,Array.replicate_succ,Array.replicate_zero,List.push_toArray,List.append_toArray,List.nil_append,List.cons_append];clear v B M;gi_wp2;refine aHC ?_;refine gN (fun W=>W.cell? ⟨B0,0,none⟩=some (.pointer (some ⟨P,0,none⟩))/\W.cell? ⟨B1,0,none⟩=some (.slice N l.length I)/\W.cell? ⟨B2,0,none⟩=some (.int .i64 m)/\W.cell? ⟨q,0,none⟩=some (.int .i64 d.1)/\W.cell? ⟨q,1,none⟩=some (.slice na d.2.length nc)/\W.cell? ⟨P,4,none⟩=some (.slice (some ⟨A.c,0,none⟩) f.c.length f.c.length)/\W.cell? ⟨A.c,b,none⟩=some (.int .i64 (cu f b))) 22 hF (fun _=>by omega) (by kernel_rfl) ?_ (by kernel_rfl) ?_
 ·rintro⟨a,w,h⟩;exact h
 refine tJ 0 17 (.slice N l.length I) rfl i ?_;refine tJ 1 18 (.int .i64 b) rfl i ?_;refine tJ 2 19 (.int .i64 m) rfl i ?_;refine tJ 3 20 (.pointer (some ⟨q,0,none⟩)) rfl i ?_;refine tJ 4 21 (.pointer (some ⟨q,0,none⟩)) rfl i ?_;refine tJ 5 22 (.pointer (some ⟨q,0,none⟩)) rfl i ?_;refine tJ 6 23 (.int .i64 d.1) rfl i ?_;refine tJ 7 24 (.pointer (some ⟨q,0,none⟩)) rfl i ?_;refine tJ 8 25 (.pointer (some ⟨q,0,none⟩)) rfl i ?_;refine tJ 9 26 (.pointer (some ⟨q,1,none⟩)) rfl i ?_;refine tJ 10 27 (.slice na d.2.length nc) rfl i ?_;refine tJ 11 28 (.int .i64 d.2.length) rfl i ?_;refine tJ 12 29 (.pointer (some ⟨P,0,none⟩)) rfl i ?_;refine tJ 13 30 (.pointer (some ⟨P,0,none⟩)) rfl i ?_;refine tJ 14 31 (.pointer (some ⟨P,4,none⟩)) rfl i ?_;refine tJ 15 32 (.slice (some ⟨A.c,0,none⟩) f.c.length f.c.length) rfl i ?_;refine tJ 16 33 (.int .i64 b) rfl i ?_;refine tJ 17 34 (.pointer (some ⟨A.c,b,none⟩)) rfl i ?_;refine tJ 18 35 (.int .i64 (cu f b)) rfl i ?_;refine tJ 19 36 (.agg #[.int .i64 b,.int .i64 m,.int .i64 d.1,.int .i64 d.2.length,.int .i64 (cu f b)]) rfl i ?_;simp only[Act.put,sB,sZ,sS];refine oE 20 rfl fun K2 ae=>?_;go_simp;obtain⟨ag,oj,Va,Gt,PL⟩:=ao;obtain⟨B3,Pm⟩:=exH (c.heap.size);obtain⟨w4,C5⟩:=exH ((c.alloc (.cells #[.int .i64 b,.int .i64 m,.int .i64 d.1,.int .i64 d.2.length,.int .i64 (cu f b)] 48)).drew);rw[<-C5.out,<-Pm.out];have fw:Bl c w4:=by rw[C5.out];exact((bQ _ c).alloc (nR _) _).drew
 have Da:yW.Sl w4 (.slice (some ⟨B3,0,none⟩) 1 1) [((b:Int),m,d.1,(d.2.length:Int),cu f b)]:=by rw[C5.out,Pm.out];exact(Ely.Sl.new (Y:=yW) c ((b:Int),m,d.1,(d.2.length:Int),cu f b) rfl).below (bQ _ _).drew
 have su:=lr.trans (fw.mono lr.size);have T0:=aA Va;clear Va;have OD:=Gt.ae (Frm.aa (S:=fun _=>False) su) fun _ _=>id;have BU:=HK.out w4 fun k C _=>fw.block k C;refine ae _ _ (fun _=>BU) ?_;clear ae K2 i;obtain⟨u',z,a',G,hr,OS,Q,R,T⟩:=yW.append ag l oj [((b:Int),m,d.1,(d.2.length:Int),cu f b)] _ _ OD Da (by simp;omega);rw[<-lP,hL]at OS;rw[hL]at Q;refine oE 21 rfl fun K2 ae=>?_;refine kM (.tmp 17) (.tmp 37) _ _ (by rfl) (.slice N l.length I) (.slice (some ⟨B3,0,none⟩) 1 1) (by rfl) (by rfl) u' z (by rw[T0.out];exact hr _) ?_;have B8:∀g,ag=some g->base<=g/\g<B0:=fun g e=>⟨PL g e,by rw[<-dz];exact(Gt.arr g e).lt⟩;have Ae:∀k,k<c.heap.size->(k<base\/k=B0\/k=B1\/k=B2)->z.heap[k]?=c.heap[k]?:=fun k C hx=>by
  obtain⟨v,B,M⟩:=HE.out;exact(T.block k (lL C fw.size) fun e=>by have:=B8 k e;omega).trans (fw.block k C)
 have mn:=HK.out z Ae;refine ae _ _ (fun _=>mn) ?_;clear ae K2 BU;obtain⟨va,vc,hva⟩:∃va vc,u'=.slice va L.length vc:=⟨_,_,OS⟩;have ER:yW.Own base z (.slice va L.length vc) L:=⟨a',G,by rw[<-hva];exact OS,Q,fun g e=>(R g e).elim (fun q=>(B8 g q).1) fun q=>lT (lT lu su.size) q⟩;have Mu:∀g,a'=some g->g≠B1:=fun g e=>by
  obtain⟨v,B,M⟩:=HE.out;have:=fw.size;rcases R g e with q | q
  ·have:=B8 g q;omega
  ·omega
 subst hva;have Tz:=aA OS;clear OS;simp only[Act.put,sB,sZ,sS];have z1:Boxed z B1 37 (.slice N l.length I):=(Ae B1 (by have:=HE.out;omega) (by omega)).trans y1;have H9:=z1.frozen;refine oE 22 rfl fun K2 ae=>?_;go_simp;refine ae _ _ (fun q=>absurd rfl q) ?_;clear ae K2;refine aS (by kernel_rfl) ?_ _;obtain⟨v,B,M⟩:=HE.out;obtain⟨j,sg⟩:=eZ (z.setCell ⟨B1,0,none⟩ (.slice va L.length vc));rw[sg];have IW:j.heap.size=z.heap.size:=by rw[<-sg];exact cT (g:=B1) [_] z 0
 have Eh:∀k,k≠B1->j.heap[k]?=z.heap[k]?:=fun k C=>by rw[<-sg];exact aY z _ C
 have Mc:Frm (fun k=>base<=k) c z:=(Frm.aa fw).trans (T.wide fun k _ e=>(B8 k e).1);have JH:Frm (fun k=>base<=k) c j:=by rw[<-sg];exact Mc.trans (Frm.set z (p:=⟨B1,0,none⟩) (show base<=B1 by omega) _)
 have MZ:Frm (AvZ 48 base w) w j:=by
  rw[<-sg];exact((Frm.aa su).next T fun x hx e=>⟨(B8 x e).1,_,Gt.arr x e⟩).put _ _ fun q=>by exfalso;have q':B1<w.heap.size:=q;omega
 have t0:Boxed j B0 61 (.pointer (some ⟨P,0,none⟩)):=(Eh B0 (by omega)).trans ((Ae B0 (by omega) (by omega)).trans y0);have t2:Boxed j B2 2 (.int .i64 m):=(Eh B2 (by omega)).trans ((Ae B2 (by omega) (by omega)).trans x2);have t1:Boxed j B1 37 (.slice va L.length vc):=by rw[<-sg];exact z1.set _
 have UQ:yW.Own base j (.slice va L.length vc) L:=by
  rw[<-sg];exact⟨a',G,Tz.out,Q.ae (Frm.set (S:=fun k=>k=B1) z (p:=⟨B1,0,none⟩) rfl _) Mu,fun g e=>(R g e).elim (fun q=>(B8 g q).1) fun q=>lT (lT lu su.size) q⟩
 have Yl:c.heap.size<=j.heap.size:=JH.size;clear mn hr Tz Q R T ER Mu Da OD C5 Pm Ae Eh H9 z1 sg fw su Mc T0 IW HK g8 p3 p4 p5 p7 kq n0 n1 k0 k1 k2 v B M;gi_wp2_with (gi_at_call 38;refine(kW F (n-1) (hF.fn _) dq _ _).mono ?_;rintro e w' ⟨rfl,rfl⟩);obtain⟨v,B,M⟩:=HE.out;have EF:Bl j (j.alloc (.cells #[.pointer (some ⟨q,0,none⟩)] 93)):=(bQ _ j).alloc (nR _) _;have GY:IsC (j.alloc (.cells #[.pointer (some ⟨q,0,none⟩)] 93)) j.heap.size #[.pointer (some ⟨q,0,none⟩)] 93:=IsC.new _ _ _;have CV:(j.alloc (.cells #[.pointer (some ⟨q,0,none⟩)] 93)).heap.size=j.heap.size+1:=by simp
 generalize Q9:j.alloc (.cells #[.pointer (some ⟨q,0,none⟩)] 93)=s at *;have Bm:Frm (fun k=>base<=k) c s:=JH.trans (Frm.aa EF);have Ma:Frm (AvZ 48 base w) w s:=MZ.trans (Frm.aa EF);have Qq:aM s q d (A.α b) E:=hN.ae Bm (by omega) (fun g e=>by have:=q8 g e;omega);have i9:St s ρ P A f J:=db.ae (Bm.wide fun k _ e=>hρ k e);have v0:Boxed s B0 61 (.pointer (some ⟨P,0,none⟩)):=(EF.block _ (by omega)).trans t0;have v1:Boxed s B1 37 (.slice va L.length vc):=(EF.block _ (by omega)).trans t1;have v2:Boxed s B2 2 (.int .i64 m):=(EF.block _ (by omega)).trans t2;have W0:=UQ.below EF;have DZ:q<s.heap.size:=Qq.box.lt;have Xf:base<=s.heap.size:=by omega
 have Y2:w.heap.size<=B1:=by omega
 clear db mz uo hN JH MZ t0 t1 t2 UQ Q9 EF lr au bh H ci dh du x0 x1 x2 y0 y1 Cu hS hL Cq hφ yg ye hna Ar Gt B8 PL v B M;refine jM dq pj (gf:=63) (lb:=#[.pointer (some ⟨j.heap.size,0,none⟩)]) rfl (qg _) (enters_of Tryz.func63 (by kernel_rfl) rfl)
  (jX F (n-1) (qg _) dq (by omega) j.heap.size q d (A.α b) E gd Au s GY Qq) KpC.trans (KpC.put GY.lt DZ (fun g e=>(Qq.arr g e).1.lt)) (bQ _ _) rfl
  (fun pre W=>∃va vc,Boxed W B1 37 (.slice va (L++pre.flatMap V).length vc)/\yW.Own base W (.slice va (L++pre.flatMap V).length vc) (L++pre.flatMap V)/\Frm (fun k=>k=B1\/AvZ 48 base s k) s W)
  ?_ ⟨va,vc,by simpa using v1,by simpa using W0,Frm.refl _ _⟩ ?_ ?_
 ·rintro pre X Y row ⟨va,vc,y,O,u⟩ hg ju
  have Ar:∀x,row=some x->s.heap.size<=x:=fun x e=>(ju x e).1;have v:=HE.out;exact⟨va,vc,y.kept hg fun e=>by have:=Ar _ e.symm;omega,O.grow hg fun r e=>(ju r e).2,u.own hg Ar⟩
 ·intro l' pre x W hi me
  gi_wp2
  refine⟨trivial,?_⟩;clear hi;rintro W ⟨va,vc,y,O,u⟩;obtain⟨post,K9⟩:=me;obtain⟨v,B,M⟩:=HE.out;have Al:kids d=pre++x :: post:=by rw[<-K9];simp
  have PH:St W ρ P A f J:=i9.ae (u.wide fun k _ e=>hρ k (by rcases e with e | e;omega;exact e.1));have Gv:s.heap.size<=W.heap.size:=u.size;have Mk:=IH pre x post Al W va vc PH (by omega) O;have r0:Boxed W B0 61 (.pointer (some ⟨P,0,none⟩)):=(u.block _ v0.lt fun e=>by
   rcases e with e | ⟨_,cs,e⟩
   ·omega
   ·exact(show IsC s B0 _ _ from v0).ab e (by decide) rfl).trans v0
  have r2:Boxed W B2 2 (.int .i64 m):=(u.block _ v2.lt fun e=>by
   rcases e with e | ⟨_,cs,e⟩
   ·omega
   ·exact(show IsC s B2 _ _ from v2).ab e (by decide) rfl).trans v2
  have rn:IsC W j.heap.size #[.pointer (some ⟨q,0,none⟩)] 93:=GY.ae u fun e=>by
   rcases e with e | ⟨_,cs,e⟩
   ·omega
   ·exact GY.ab e (by decide) rfl
  have j0:=r0.cell;have j1:=y.cell;have j2:=r2.cell;have HH:=aA (aI y u);have zy:=aA Gv;have HR:=aA rn;obtain⟨LL,Qo⟩:=eZ (L++pre.flatMap V);have Iq:=aA Qo;rw[Qo]at Mk j1;clear y O u K9 Al PH Gv rn Qo v B M CV;gi_wp2;refine⟨fun _=>by omega,(CallsIn.inRound l' (hF.calls _ _ _ _ _ Mk)).mono ?_⟩;rintro e W2 ⟨⟨u2,rfl,DF⟩,d8⟩;obtain⟨U,Z,rfl⟩:=DF.sl.len;obtain⟨y,u⟩:=HH.out;rw[Iq.out]at y;have Se:∀{k:Nat} {cs:Array Value} {t:TypeId},IsC W k cs t->t≠48->¬AvZ 48 base W k:=fun C ht e=>by
   obtain⟨_,cs,e⟩:=e;exact C.ab e ht rfl
  have q4:Boxed W2 B1 37 (.slice va LL.length vc):=(d8.block B1 y.lt (Se (show IsC W B1 _ _ from y) (by decide))).trans y;have q5:=q4.cell;have q6:=q4.frozen;have Gv:=zy.out;have rn:=HR.out;obtain⟨N2,ts⟩:=eZ (L++(pre++[x]).flatMap V);rw[ts]at DF;have Hg:=aA ts;rw[ts];obtain⟨W3,Cm⟩:=eZ (W2.setCell ⟨B1,0,none⟩ (.slice U N2.length Z));have it:∀k,k<W.heap.size->k≠B1->¬AvZ 48 base W k->W3.heap[k]?=W.heap[k]?:=fun k C v B=>by
   rw[<-Cm];exact(aY W2 _ v).trans (d8.block k C B)
  have ay:W.heap.size<=W3.heap.size:=by rw[<-Cm];exact lT d8.size (Nat.le_of_eq (cT (g:=B1) [_] W2 0).symm)
  have ly:KeepsFrom s.heap.size W W3:=⟨ay,fun k o C AL ho=>(it k (Array.getElem?_eq_some_iff.1 AL).1 (by have:=v1.lt;omega) fun e=>by
   obtain⟨_,cs,e⟩:=e;have e':W.heap[k]?=some (.cells cs 48 (0,0)):=e;rw[AL]at e';cases e';cases ho).trans AL⟩
  have aw:∀k,k<base->k≠B1/\¬AvZ 48 base W k:=fun k C=>⟨by omega,fun e=>by have:=e.1;omega⟩;have xo:KpC j.heap.size q (A.α b) W W3:=⟨ay,it _ rn.lt (by have:=HE.out;omega) (Se rn (by decide)),it q (by omega) (aw q Gp).1 (aw q Gp).2,fun g e=>it g (by have:=q8 g e;omega) (aw g (q8 g e)).1 (aw g (q8 g e)).2⟩;have H:Boxed W3 B1 37 (.slice U N2.length Z):=by rw[<-Cm];exact q4.set _
  have py:yW.Own base W3 (.slice U N2.length Z) N2:=by
   obtain⟨a9,j9,z1,z2,z3⟩:=DF;rw[<-Cm];exact⟨a9,j9,z1,z2.ae (Frm.set (S:=fun k=>k=B1) W2 (p:=⟨B1,0,none⟩) rfl _) fun g e=>((show IsC W2 B1 _ _ from q4).ab (z2.arr g e) (by decide)).symm,z3⟩
  have br:Frm (fun k=>k=B1\/AvZ 48 base s k) s W3:=by
   rw[<-Cm];exact AvZ.dz u ((d8.wide fun k _ e=>.inr e).trans (Frm.set W2 (p:=⟨B1,0,none⟩) (.inl rfl) _))
  have HF:=aA (aI ly (aI xo (aI H (aI py br))));clear ly xo H py br it aw Se d8 DF q4 y u ay ts Mk rn Gv;gi_wp2;obtain⟨ly,xo,H,py,br⟩:=HF.out;rw[<-Hg.out]at H py;exact⟨ly,xo,U,Z,H,py,br⟩
 ·rintro D W hD ⟨va,vc,y,O,u⟩ hK
  have j1:=y.cell;have HF:=aA (aI O (aI u hK));clear O u hK;gi_wp2;obtain⟨O,u,hK⟩:=HF.out;have bo:W.grownBy (W.putObj D (.deferred none)) (some D):=grownBy_putObj' W D _;refine⟨by simp,.inl ⟨_,_,rfl,run_takeDeferred hK,?_⟩⟩;refine⟨_,by simp[results,Tryz.f21,go_sem],⟨⟨_,rfl,O.grow bo fun r e=>by cases e;exact⟨_,hK,rfl⟩⟩,(AvZ.next Ma u Y2).own bo fun x e=>by cases e;have:=Ma.size;omega⟩⟩
theorem aLX{es pre post:List Nat}{x:Nat}(h:es=pre++x :: post):pre.length<es.length/\es.getD pre.length 0=x:=by
 subst h;simp
theorem nJ{K:Int}{f:fZ}(z:IC f)(t:Sz K f)(ρ:Nat->Nat)(P:Nat)(A:Adr)(J:List aR)(base:Nat)(u:∀k,base<=k->ρ k=0):
  ∀(h b:Nat) (lo hi:OB) (dp:Int) (w:World) (ua:Option Addr) (cp:Nat) (l:List VW),Ok f.n h b lo hi->St w ρ P A f J->base<=w.heap.size->yW.Own base w (.slice ua l.length cp) l->l.length+(cK f h b dp).length<=900000->0<=dp->dp+h<=90000->
   Calls Tryz.prog 21 #[.pointer (some ⟨P,0,none⟩),.slice ua l.length cp,.int .i64 b,.int .i64 dp] w (AvP w base (l++cK f h b dp))
 | 0,b,lo,hi,dp,w,ua,cp,l,r,p,v,s,M,o,H=>by
  obtain⟨es,d,R,_⟩:=r;have g:kids (1,es)=[]:=by simp[kids]
  have:=(callsIn_wide (n:=5)).1 (pW (K:=K) Fence.wide 5 (nI.wide _) rfl (nR _) w ρ P A f J b p t (1,es) d (fun q=>by cases q) base v u ua cp l s dp ⟨o,by omega⟩ (fun _=>[]) (by omega) _ rfl (fun a x i e=>by rw[g]at e;simp at e))
  rw[g,List.flatMap_nil,List.append_nil]at this;have e:cK f 0 b dp=[((b:Int),dp,1,(es.length:Int),cu f b)]:=by simp only[cK,fD,cP d]
  rw[e];exact this
 | h+1,b,lo,hi,dp,w,ua,cp,l,r,p,v,s,M,o,H=>by
  obtain⟨es,d,R,V,X,Q⟩:=r;have g:kids (2,es)=es.map ch:=by simp[kids]
  have E:∀e∈es,0<=e.2.2:=fun e L=>by
   obtain⟨j,N,rfl⟩:=cO L;have:=z.ar d N;omega
  have e:cK f (h+1) b dp=((b:Int),dp,2,(es.length:Int),cu f b) ::(kids (2,es)).flatMap fun c=>cK f h c (dp+1):=by
   rw[g];simp only[cK,fD,cP d,List.flatMap_map]
  have U:((kids (2,es)).flatMap fun c=>cK f h c (dp+1)).length+1=(cK f (h+1) b dp).length:=by rw[e];simp
  have:=(callsIn_wide (n:=5)).1 (pW (K:=K) Fence.wide 5 (nI.wide _) rfl (nR _) w ρ P A f J b p t (2,es) d (fun _=>E) base v u ua cp l s dp ⟨o,by omega⟩ (fun c=>cK f h c (dp+1)) (by omega) _ rfl (fun a x i y W S T B C D=>by
   have m:=aLX y;rw[g,List.length_map]at m;have O:x=kd es a.length:=by
    rw[<-m.2];simp[kd,gD,m.1]
   have G:=congrArg (fun l=>(List.flatMap (fun c=>cK f h c (dp+1)) l).length) y;simp only[List.flatMap_append,List.flatMap_cons,lP]at G;have I:=nJ z t ρ P A J base u h x _ _ (dp+1) W S T _ (by rw[O];exact(Q a.length m.1).2) B C D (by simp only[lP,List.length_cons,List.length_nil];omega) (by omega) (by omega);have F:(a++[x]).flatMap (fun c=>cK f h c (dp+1))=a.flatMap (fun c=>cK f h c (dp+1))++cK f h x (dp+1):=by simp
   rw[F,<-List.append_assoc];exact I))
  rw[e,show l++((b:Int),dp,2,(es.length:Int),cu f b) ::(kids (2,es)).flatMap (fun c=>cK f h c (dp+1))=(l++[((b:Int),dp,2,(es.length:Int),cu f b)])++(kids (2,es)).flatMap (fun c=>cK f h c (dp+1)) by simp];exact this
