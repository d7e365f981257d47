import Derived.Test.YtmpagpeenjddgaaGreatSq16
import Derived.Test.YtmpagpeenjddgaaGreatHq32
set_option maxHeartbeats 9999999
set_option maxRecDepth 99999
set_option linter.all false
namespace Go.Proofs.YtmpagpeenjddgaaGreat
open Go.RowKit Fo
variable{a:Act}{K:Act->World->Prop}{cs vs x:Array Value}{Q:Exit->Act->World->Prop}{B1 B2 B3 B4 B5 g t:Nat}{o:Oper}{A:SA}{NS RS cv gn n nv nx rv tv:Value}{w w' wr:World}{f:fZ}
def stV(A:SA)(f:fZ):Value:=.agg (aL A f)
structure Cpy(w:World)(n NS RS nx gn cv tv:Value)(B1 B2 B3:Nat)(nv rv:Value)(wr:World):Prop where
 b1:IsC wr B1 #[n,NS,RS,nx,gn,cv,tv] 58
 b2:IsC wr B2 #[iV 0,.slice none 0 0,.slice none 0 0,iV 0,iV 0,.slice none 0 0,.slice none 0 0] 58
 b3:IsC wr B3 #[n,nv,rv,nx,gn,cv,tv] 58
 bk:Bl w wr
 dc:B1≠B3/\B2≠B3/\w.heap.size<=B3
 ey:w.heap.size<=B2
structure CpR{α:Type}(Y:Ely α)(w:World)(n NS RS nx gn cv tv:Value)(B1 B2 B3:Nat)(fst:Bool)(ov:Value)(l:List α)(j:Nat)(wr:World):Prop where
 ex:∃ag jk,Cpy w n NS RS nx gn cv tv B1 B2 B3 (if fst then .slice (adr ag) j (j+jk.length)else ov) (if fst then ov else .slice (adr ag) j (j+jk.length)) wr/\Y.Rw wr ag (l.take j) jk/\∀g,ag=some g->w.heap.size<=g
theorem Cpy.ae{S:Nat->Prop}(h:Cpy w n NS RS nx gn cv tv B1 B2 B3 nv rv wr)(k:Frm S wr w')(a:∀g,S g->w.heap.size<=g/\g≠B1/\g≠B2/\g≠B3):Cpy w n NS RS nx gn cv tv B1 B2 B3 nv rv w':=
 ⟨h.b1.ae k fun q=>(a _ q).2.1 rfl,h.b2.ae k fun q=>(a _ q).2.2.1 rfl,h.b3.ae k fun q=>(a _ q).2.2.2 rfl,h.bk.trans (k.below h.bk.size fun g q=>(a g q).1),h.dc,h.ey⟩
theorem Cpy.eX(h:Cpy w n NS RS nx gn cv tv B1 B2 B3 nv rv wr)(v:Value):Cpy w n NS RS nx gn cv tv B1 B2 B3 v rv (wr.setCell (aD B3 1) v):=
 ⟨h.b1.set_ne v h.dc.1,h.b2.set_ne v h.dc.2.1,h.b3.set 1 v,h.bk.trans ((bQ _ wr).setCell (p:=aD B3 1) h.dc.2.2 v),h.dc,h.ey⟩
theorem Cpy.dh(h:Cpy w n NS RS nx gn cv tv B1 B2 B3 nv rv wr)(v:Value):Cpy w n NS RS nx gn cv tv B1 B2 B3 nv v (wr.setCell (aD B3 2) v):=
 ⟨h.b1.set_ne v h.dc.1,h.b2.set_ne v h.dc.2.1,h.b3.set 2 v,h.bk.trans ((bQ _ wr).setCell (p:=aD B3 2) h.dc.2.2 v),h.dc,h.ey⟩
theorem mX(w:World)(A:SA)(hS:SpV w A f)(h8:0<f.c.length)(h5:f.c.length<=512)(h1:0<f.r.length)(kz:f.r.length<=100)(kh:∃a n c,A.tv=.slice a n c):
  Calls Tryz.prog 45 #[stV A f] w fun r w'=>∃A',r=.returned (stV A' f)/\SpV w' A' f/\A'.tv=A.tv/\w.heap.size<=A'.ga/\w.heap.size<=A'.gr/\Bl w w':=by
 have PW:=aA hS.ln;obtain⟨B1,fe⟩:=eZ (w.heap.size);obtain⟨K,M,L,kh⟩:=kh;obtain⟨I,J,uh⟩:=hS.m.len;have XT:Hid (∀(r:Ending) (w':World) (A':SA),r=.returned (stV A' f)->SpV w' A' f->A'.tv=A.tv->w.heap.size<=A'.ga->w.heap.size<=A'.gr->Bl w w'->∃A',r=.returned (stV A' f)/\SpV w' A' f/\A'.tv=A.tv/\w.heap.size<=A'.ga/\w.heap.size<=A'.gr/\Bl w w'):=fun r w' A' a b c d e g=>⟨A',a,b,c,d,e,g⟩;obtain⟨PS,hPS⟩:∃PS:Ending->World->Prop,PS=fun r w'=>∃A',r=.returned (stV A' f)/\SpV w' A' f/\A'.tv=A.tv/\w.heap.size<=A'.ga/\w.heap.size<=A'.gr/\Bl w w':=⟨_,rfl⟩;rw[<-hPS];have Qt:=aA hPS;clear hPS;have pn:stV A f=.agg #[iV f.c.length,sL A.ga 0 A.ns.length (A.ns.length+A.nj.length),sL A.gr 0 f.r.length (f.r.length+A.rj.length),iV f.next,iV f.gen,.slice I f.m.length J,.slice K M L]:=by unfold stV aL;rw[uh,kh]
 rw[pn];have Lu:=aA (aI uh (aI kh pn));clear uh kh pn;obtain⟨w1,bx⟩:=eZ (w.alloc (.cells #[iV f.c.length,sL A.ga 0 A.ns.length (A.ns.length+A.nj.length),sL A.gr 0 f.r.length (f.r.length+A.rj.length),iV f.next,iV f.gen,.slice I f.m.length J,.slice K M L] 58));obtain⟨B2,c9⟩:=eZ (w1.heap.size);obtain⟨w2,de⟩:=eZ (w1.alloc (.cells #[iV 0,.slice none 0 0,.slice none 0 0,iV 0,iV 0,.slice none 0 0,.slice none 0 0] 58));obtain⟨B3,fv⟩:=eZ (w2.heap.size);obtain⟨w3,X⟩:=eZ (w2.alloc (.cells #[iV f.c.length,.slice none 0 0,sL A.gr 0 f.r.length (f.r.length+A.rj.length),iV f.next,iV f.gen,.slice I f.m.length J,.slice K M L] 58));have e1:=bAl bx;have e2:=bAl de;have e3:=bAl X;have c1:=iNw bx fe;have c2:=iNw de c9;have Z:=iNw X fv;have H:=c1.of (e2.block _ c1.lt);have q0:w2.cell? (aD B1 0)=some (iV f.c.length):=H.c rfl;have q1:w2.cell? (aD B1 1)=some (sL A.ga 0 A.ns.length (A.ns.length+A.nj.length)):=H.c rfl;have q2:w2.cell? (aD B1 2)=some (sL A.gr 0 f.r.length (f.r.length+A.rj.length)):=H.c rfl;have q3:w2.cell? (aD B1 3)=some (iV f.next):=H.c rfl;have q4:w2.cell? (aD B1 4)=some (iV f.gen):=H.c rfl;have q5:w2.cell? (aD B1 5)=some (.slice I f.m.length J):=H.c rfl;have q6:w2.cell? (aD B1 6)=some (.slice K M L):=H.c rfl;have U6:Cpy w (iV f.c.length) (sL A.ga 0 A.ns.length (A.ns.length+A.nj.length)) (sL A.gr 0 f.r.length (f.r.length+A.rj.length)) (iV f.next) (iV f.gen) (.slice I f.m.length J) (.slice K M L) B1 B2 B3 (.slice none 0 0) (sL A.gr 0 f.r.length (f.r.length+A.rj.length)) w3:=
  ⟨(c1.of (e2.block _ c1.lt)).of (e3.block _ (lL c1.lt e2.size)),c2.of (e3.block _ c2.lt),Z,e1.trans ((e2.trans (e3.mono e2.size)).mono e1.size),by have:=c1.lt;have:=c2.lt;have:=e1.size;have:=e2.size;omega,by have:=e1.size;omega⟩
 have UO:=aA U6;have L2:=aA fun(w':World) (hb:Bl w w')=>hS.below hb;have Se:=hS.aq.arr.lt;have Sn:=hS.bp.lt;clear e1 e2 e3 c1 c2 Z H U6 hS;go_enter Tryz.func45,Tryz.ntmps45;go_wp2;go_loopw [4] (fun i wr=>∃j:Nat,j<=A.ns.length/\i=iV j/\CpR yN w (iV f.c.length) (sL A.ga 0 A.ns.length (A.ns.length+A.nj.length)) (sL A.gr 0 f.r.length (f.r.length+A.rj.length)) (iV f.next) (iV f.gen) (.slice I f.m.length J) (.slice K M L) B1 B2 B3 true (sL A.gr 0 f.r.length (f.r.length+A.rj.length)) A.ns j wr) (fun i _=>A.ns.length -(intOf i).toNat)
 case atStart=>exact⟨0,by omega,rfl,⟨none,[],UO.out,⟨fun g e=>(by cases e),fun _=>⟨by simp,rfl⟩,by simp⟩,fun g e=>(by cases e)⟩⟩
 case round=>
  clear UO bx de X;obtain⟨j,hj,rfl,⟨t,m,h,N,lj⟩⟩:=hrel;simp only[if_true]at h;have m1:wr.cell? (aD B1 1)=some (sL A.ga 0 A.ns.length (A.ns.length+A.nj.length)):=by rw[h.b1.cell];rfl
  have m2:wr.cell? (aD B3 1)=some (.slice (adr t) j (j+m.length)):=by rw[h.b3.cell];rfl
  have AQ:=L2.out wr h.bk;by_cases ai:j<A.ns.length
  ·have LJ:(j:Int) <(A.ns.length:Int):=by omega
   have hj6:j<600:=by have:=PW.out;omega
   have V:∀(W:World),W.heap[A.ga]?=wr.heap[A.ga]?->W.cell? (aD A.ga (j*2))=some (iV (A.ns.getD j nv0).1)/\W.cell? (aD A.ga (j*2+1))=some (.slice (A.ns.getD j nv0).2.1 (A.ns.getD j nv0).2.2.1 (A.ns.getD j nv0).2.2.2):=fun W he=>by
    have hx:∀i,i<2->W.cell? (aD A.ga (j*2+i))=(aDL (A.ns.getD j nv0))[i]?:=fun i hi=>by
     have h0:W.cell? (aD A.ga (j*2+i))=wr.cell? (aD A.ga (j*2+i)):=by simp[World.cell?,he]
     rw[h0,AQ.aq.arr.cell];have:=yN.at (A.ns++A.nj) (i:=j) (j:=i) (by simp;omega) hi;have e2:(A.ns++A.nj).getD j yN.z=A.ns.getD j nv0:=by rw[dC,if_pos ai];rfl
     rw[e2]at this;exact this
    exact⟨hx 0 (by omega),hx 1 (by omega)⟩
   have Mt:=aA (cO A.ns j nv0 ai);have BJ:(A.ns.take j).length=j:=by simp;omega
   obtain⟨m3,m4⟩:=V wr rfl;obtain⟨⟨z,B,x3,x4⟩,PC⟩:∃x,A.ns.getD j nv0=x:=⟨_,rfl⟩;rw[PC]at m3 m4 V Mt;simp only at m3 m4 V;have E:wr.drew.cell? (aD B1 1)=some (sL A.ga 0 A.ns.length (A.ns.length+A.nj.length))/\wr.drew.cell? (aD B3 1)=some (.slice (adr t) j (j+m.length))/\wr.drew.cell? (aD A.ga (j*2))=some (iV z)/\wr.drew.cell? (aD A.ga (j*2+1))=some (.slice B x3 x4):=⟨m1,m2,m3,m4⟩;have HC:=aA h;have Mp:=aA N;have JC:=aA lj;have ud:=aA V;have Mj:=aA BJ;have Ba:Hid (j+1<=A.ns.length):=ai;clear V PC h N lj AQ BJ;go_wp2;refine bB (fun W=>W.cell? (aD B1 1)=some (sL A.ga 0 A.ns.length (A.ns.length+A.nj.length))/\W.cell? (aD B3 1)=some (.slice (adr t) j (j+m.length))/\W.cell? (aD A.ga (j*2))=some (iV z)/\W.cell? (aD A.ga (j*2+1))=some (.slice B x3 x4)) 10 (by kernel_rfl) ?_;refine tJ 0 15 (pT B3 1) rfl E ?_;refine tJ 1 16 (.slice (adr t) j (j+m.length)) rfl E ?_;refine tJ 2 17 (pT B1 1) rfl E ?_;refine tJ 3 18 (sL A.ga 0 A.ns.length (A.ns.length+A.nj.length)) rfl E ?_;refine tJ 4 19 (iV j) rfl E ?_;refine tJ 5 20 (pT A.ga (j*2)) rfl E ?_;refine tJ 6 21 (.agg #[iV z,.slice B x3 x4]) rfl E ?_;simp only[Act.put,sB,sZ,sS];refine oE 7 rfl fun K2 s=>?_;go_simp;obtain⟨G,HG⟩:=exH (wr.heap.size);obtain⟨o,EQ⟩:=exH ((wr.alloc (.cells #[iV z,.slice B x3 x4] 96)).drew);rw[<-EQ.out,<-HG.out];have Fp:Bl wr o:=by rw[EQ.out];exact((bQ _ wr).alloc (nR _) _).drew
   have R:Frm (fun _=>False) wr o:=Frm.aa Fp;have kw:yN.Sl o (sL G 0 1 1) [(z,B,x3,x4)]:=by
    rw[EQ.out,HG.out];exact(Ely.Sl.new (Y:=yN) wr (z,B,x3,x4) rfl).below (bQ _ _).drew
   have D:=HC.out.ae R (fun _ q=>q.elim);have T:=Mp.out.ae R (fun _ _=>id);have Cb:A.ga<wr.heap.size:=lL Se HC.out.bk.size;have AG:=ud.out o (R.block _ Cb id);have vo:o.cell? (aD B1 1)=some (sL A.ga 0 A.ns.length (A.ns.length+A.nj.length))/\o.cell? (aD B3 1)=some (.slice (adr t) j (j+m.length))/\o.cell? (aD A.ga (j*2))=some (iV z)/\o.cell? (aD A.ga (j*2+1))=some (.slice B x3 x4):=⟨by rw[D.b1.cell];rfl,by rw[D.b3.cell];rfl,AG.1,AG.2⟩;obtain⟨u,l,O,y,td,hu,tq,m0,dz⟩:=yN.append t (A.ns.take j) m [(z,B,x3,x4)] _ o T kw (by have:=PW.out;rw[Mj.out];simp;omega);rw[Mj.out]at td hu;have GM:u=.slice (adr O) (j+1) (j+1+y.length):=hu;have au:∀g,t=some g->g≠B1/\g≠B2/\g≠B3:=fun g e=>⟨(T.arr g e).ab D.b1 (by decide),(T.arr g e).ab D.b2 (by decide),(T.arr g e).ab D.b3 (by decide)⟩;have C:=D.ae dz (fun g e=>⟨JC.out g e,au g e⟩);have q9:=ud.out l ((dz.block A.ga (lL Cb Fp.size) (fun e=>by have:=JC.out _ e;omega)).trans (R.block _ Cb id));have Z:l.cell? (aD B3 1)=some (.slice (adr t) j (j+m.length)):=by rw[C.b3.cell];rfl
   have z3:=C.b3.frozen 1;have i9:l.cell? (aD B1 1)=some (sL A.ga 0 A.ns.length (A.ns.length+A.nj.length))/\l.cell? (aD B3 1)=some (.slice (adr t) j (j+m.length))/\l.cell? (aD A.ga (j*2))=some (iV z)/\l.cell? (aD A.ga (j*2+1))=some (.slice B x3 x4):=⟨by rw[C.b1.cell];rfl,Z,q9.1,q9.2⟩;have AZ:∀g,O=some g->w.heap.size<=g:=fun g e=>(m0 g e).elim (JC.out g) fun q=>lT D.bk.size q;have EE:∀g,O=some g->¬g=B3:=fun g e=>(tq.arr g e).ab C.b3 (by decide);have EP:Hid (CpR yN w (iV f.c.length) (sL A.ga 0 A.ns.length (A.ns.length+A.nj.length)) (sL A.gr 0 f.r.length (f.r.length+A.rj.length)) (iV f.next) (iV f.gen) (.slice I f.m.length J) (.slice K M L) B1 B2 B3 true (sL A.gr 0 f.r.length (f.r.length+A.rj.length)) A.ns (j+1) (l.setCell (aD B3 1) (.slice (adr O) (j+1) (j+1+y.length)))):=by
    refine⟨O,y,C.eX _,?_,AZ⟩;rw[Mt.out];exact tq.ae (Frm.set (S:=fun k=>k=B3) l (p:=aD B3 1) rfl _) EE
   refine s _ _ (fun _=>vo) ?_;clear s K2 E;refine oE 8 rfl fun K2 s=>?_;refine lV _ _ _ _ rfl 23 rfl _ _ rfl rfl u l (td _) ?_;simp only[Act.put,sB,sZ,sS];subst GM;refine s _ _ (fun _=>i9) ?_;clear s K2 vo hu td;refine oE 9 rfl fun K2 s=>?_;go_simp;refine s _ _ (fun _=>i9) ?_;clear s K2;refine oE 10 rfl fun K2 s=>?_;go_simp;refine s _ _ (fun q=>absurd rfl q) ?_;clear s K2;refine aT (by kernel_rfl) ?_ _;clear D C T tq R dz AG q9 m0 au AZ EE kw Fp;obtain⟨w3,X⟩:=eZ (l.setCell (aD B3 1) (.slice (adr O) (j+1) (j+1+y.length)));rw[X]at EP;rw[X];clear X Z z3;go_wp2;go_roundw
   case rel=>exact⟨j+1,Ba.out,by go_num,EP.out⟩
   case measure=>have:=Ba.out;simp[intOf];omega
  ·obtain rfl:j=A.ns.length:=by omega
   have P3:∃g,t=some g:=by
    cases t with
    | none=>have e:=(N.nil rfl).1;rw[List.take_of_length_le (nR _)]at e;have:=PW.out;rw[e]at this;simp at this;omega
    | some g=>exact⟨g,rfl⟩
   obtain⟨P,rfl⟩:=P3;obtain⟨Q,rfl⟩:∃Q,Q=m:=⟨_,rfl⟩;rw[List.take_of_length_le (nR _)]at N;have z3:=h.b3.frozen 2;have Z:wr.cell? (aD B3 2)=some (sL A.gr 0 f.r.length (f.r.length+A.rj.length)):=by rw[h.b3.cell];rfl
   have C:=h.dh (.slice none 0 0);have Li:=N.ae (Frm.set (S:=fun k=>k=B3) wr (p:=aD B3 2) rfl (.slice none 0 0)) (fun g e=>(N.arr g e).ab h.b3 (by decide));have lw:=lj P rfl;obtain⟨w4,ci⟩:=eZ (wr.setCell (aD B3 2) (.slice none 0 0));obtain⟨NV1,Rg⟩:=eZ (Value.slice (adr (some P)) A.ns.length (A.ns.length+Q.length));rw[ci]at C Li;rw[Rg]at C;have Cv:=aA C;have By:=aA Li;have XN:=aA Rg;have XB:=aA lw;clear C Li Rg N h AQ lj lw;go_wp2;go_loopw [5] (fun i wr=>∃j:Nat,j<=f.r.length/\i=iV j/\CpR yT w (iV f.c.length) (sL A.ga 0 A.ns.length (A.ns.length+A.nj.length)) (sL A.gr 0 f.r.length (f.r.length+A.rj.length)) (iV f.next) (iV f.gen) (.slice I f.m.length J) (.slice K M L) B1 B2 B3 false NV1 f.r j wr/\yN.Rw wr (some P) A.ns Q) (fun i _=>f.r.length -(intOf i).toNat)
   case atStart=>exact⟨0,by omega,rfl,⟨none,[],Cv.out,⟨fun g e=>(by cases e),fun _=>⟨by simp,rfl⟩,by simp⟩,fun g e=>(by cases e)⟩,By.out⟩
   case round=>
    clear Cv By ci z3 Z;obtain⟨j,hj,rfl,⟨t,m,h,N,lj⟩,Iu⟩:=hrel;simp only[if_false,Bool.false_eq_true]at h;have m1:wr.cell? (aD B1 2)=some (sL A.gr 0 f.r.length (f.r.length+A.rj.length)):=by rw[h.b1.cell];rfl
    have m2:wr.cell? (aD B3 2)=some (.slice (adr t) j (j+m.length)):=by rw[h.b3.cell];rfl
    have AQ:=L2.out wr h.bk;by_cases ai:j<f.r.length
    ·have LJ:(j:Int) <(f.r.length:Int):=by omega
     have V:∀(W:World),W.heap[A.gr]?=wr.heap[A.gr]?->W.cell? (aD A.gr (j*2))=some (iV (f.r.getD j (0,0)).1)/\W.cell? (aD A.gr (j*2+1))=some (iV (f.r.getD j (0,0)).2):=fun W he=>by
      have hx:∀i,W.cell? (aD A.gr i)=wr.cell? (aD A.gr i):=fun i=>by simp[World.cell?,he]
      rw[hx,hx];exact AQ.root ai
     have Mt:=aA (cO f.r j (0,0) ai);have BJ:(f.r.take j).length=j:=by simp;omega
     obtain⟨m3,m4⟩:=V wr rfl;obtain⟨⟨z,B⟩,PC⟩:∃x,f.r.getD j (0,0)=x:=⟨_,rfl⟩;rw[PC]at m3 m4 V Mt;simp only at m3 m4 V;have E:wr.drew.cell? (aD B1 2)=some (sL A.gr 0 f.r.length (f.r.length+A.rj.length))/\wr.drew.cell? (aD B3 2)=some (.slice (adr t) j (j+m.length))/\wr.drew.cell? (aD A.gr (j*2))=some (iV z)/\wr.drew.cell? (aD A.gr (j*2+1))=some (iV B):=⟨m1,m2,m3,m4⟩;have HC:=aA h;have Mp:=aA N;have JN:=aA Iu;have JC:=aA lj;have ud:=aA V;have Mj:=aA BJ;have Ba:Hid (j+1<=f.r.length):=ai;clear V PC h N lj AQ BJ Iu;go_wp2;refine bB (fun W=>W.cell? (aD B1 2)=some (sL A.gr 0 f.r.length (f.r.length+A.rj.length))/\W.cell? (aD B3 2)=some (.slice (adr t) j (j+m.length))/\W.cell? (aD A.gr (j*2))=some (iV z)/\W.cell? (aD A.gr (j*2+1))=some (iV B)) 10 (by kernel_rfl) ?_;refine tJ 0 33 (pT B3 2) rfl E ?_;refine tJ 1 34 (.slice (adr t) j (j+m.length)) rfl E ?_;refine tJ 2 35 (pT B1 2) rfl E ?_;refine tJ 3 36 (sL A.gr 0 f.r.length (f.r.length+A.rj.length)) rfl E ?_;refine tJ 4 37 (iV j) rfl E ?_;refine tJ 5 38 (pT A.gr (j*2)) rfl E ?_;refine tJ 6 39 (.agg #[iV z,iV B]) rfl E ?_;simp only[Act.put,sB,sZ,sS];refine oE 7 rfl fun K2 s=>?_;go_simp;obtain⟨G,HG⟩:=exH (wr.heap.size);obtain⟨o,EQ⟩:=exH ((wr.alloc (.cells #[iV z,iV B] 92)).drew);rw[<-EQ.out,<-HG.out];have Fp:Bl wr o:=by rw[EQ.out];exact((bQ _ wr).alloc (nR _) _).drew
     have R:Frm (fun _=>False) wr o:=Frm.aa Fp;have kw:yT.Sl o (sL G 0 1 1) [(z,B)]:=by
      rw[EQ.out,HG.out];exact(Ely.Sl.new (Y:=yT) wr (z,B) rfl).below (bQ _ _).drew
     have D:=HC.out.ae R (fun _ q=>q.elim);have T:=Mp.out.ae R (fun _ _=>id);have Cb:A.gr<wr.heap.size:=lL Sn HC.out.bk.size;have AG:=ud.out o (R.block _ Cb id);have vo:o.cell? (aD B1 2)=some (sL A.gr 0 f.r.length (f.r.length+A.rj.length))/\o.cell? (aD B3 2)=some (.slice (adr t) j (j+m.length))/\o.cell? (aD A.gr (j*2))=some (iV z)/\o.cell? (aD A.gr (j*2+1))=some (iV B):=⟨by rw[D.b1.cell];rfl,by rw[D.b3.cell];rfl,AG.1,AG.2⟩;obtain⟨u,l,O,y,td,hu,tq,m0,dz⟩:=yT.append t (f.r.take j) m [(z,B)] _ o T kw (by have:=PW.out;rw[Mj.out];simp;omega);rw[Mj.out]at td hu;have GM:u=.slice (adr O) (j+1) (j+1+y.length):=hu;have au:∀g,t=some g->g≠B1/\g≠B2/\g≠B3:=fun g e=>⟨(T.arr g e).ab D.b1 (by decide),(T.arr g e).ab D.b2 (by decide),(T.arr g e).ab D.b3 (by decide)⟩;have C:=D.ae dz (fun g e=>⟨JC.out g e,au g e⟩);have q9:=ud.out l ((dz.block A.gr (lL Cb Fp.size) (fun e=>by have:=JC.out _ e;omega)).trans (R.block _ Cb id));have Z:l.cell? (aD B3 2)=some (.slice (adr t) j (j+m.length)):=by rw[C.b3.cell];rfl
     have z3:=C.b3.frozen 2;have i9:l.cell? (aD B1 2)=some (sL A.gr 0 f.r.length (f.r.length+A.rj.length))/\l.cell? (aD B3 2)=some (.slice (adr t) j (j+m.length))/\l.cell? (aD A.gr (j*2))=some (iV z)/\l.cell? (aD A.gr (j*2+1))=some (iV B):=⟨by rw[C.b1.cell];rfl,Z,q9.1,q9.2⟩;have AZ:∀g,O=some g->w.heap.size<=g:=fun g e=>(m0 g e).elim (JC.out g) fun q=>lT D.bk.size q;have EE:∀g,O=some g->¬g=B3:=fun g e=>(tq.arr g e).ab C.b3 (by decide);have EP:Hid (CpR yT w (iV f.c.length) (sL A.ga 0 A.ns.length (A.ns.length+A.nj.length)) (sL A.gr 0 f.r.length (f.r.length+A.rj.length)) (iV f.next) (iV f.gen) (.slice I f.m.length J) (.slice K M L) B1 B2 B3 false NV1 f.r (j+1) (l.setCell (aD B3 2) (.slice (adr O) (j+1) (j+1+y.length)))):=by
      refine⟨O,y,C.dh _,?_,AZ⟩;rw[Mt.out];exact tq.ae (Frm.set (S:=fun k=>k=B3) l (p:=aD B3 2) rfl _) EE
     refine s _ _ (fun _=>vo) ?_;clear s K2 E;refine oE 8 rfl fun K2 s=>?_;refine lV _ _ _ _ rfl 41 rfl _ _ rfl rfl u l (td _) ?_;simp only[Act.put,sB,sZ,sS];subst GM;refine s _ _ (fun _=>i9) ?_;clear s K2 vo hu td;refine oE 9 rfl fun K2 s=>?_;go_simp;refine s _ _ (fun _=>i9) ?_;clear s K2;refine oE 10 rfl fun K2 s=>?_;go_simp;refine s _ _ (fun q=>absurd rfl q) ?_;clear s K2;refine aT (by kernel_rfl) ?_ _;have Mn:Hid (yN.Rw (l.setCell (aD B3 2) (.slice (adr O) (j+1) (j+1+y.length))) (some P) A.ns Q):=by
      have k1:=JN.out.ae R (fun _ _=>id);have k2:=k1.ae dz (fun g e q=>(k1.arr g e).ab (T.arr g q) (by decide) rfl);exact k2.ae (Frm.set (S:=fun k=>k=B3) l (p:=aD B3 2) rfl _) (fun g e=>(k2.arr g e).ab C.b3 (by decide))
     clear D C T tq R dz AG q9 m0 au AZ EE kw Fp;obtain⟨w3,X⟩:=eZ (l.setCell (aD B3 2) (.slice (adr O) (j+1) (j+1+y.length)));rw[X]at EP Mn;rw[X];clear X Z z3;go_wp2;go_roundw
     case rel=>exact⟨j+1,Ba.out,by go_num,EP.out,Mn.out⟩
     case measure=>have:=Ba.out;simp[intOf];omega
    ·obtain rfl:j=f.r.length:=by omega
     obtain⟨g2,rfl⟩:∃g,t=some g:=by
      cases t with
      | none=>have e:=(N.nil rfl).1;rw[List.take_of_length_le (nR _)]at e;rw[e]at h1;simp at h1
      | some g=>exact⟨g,rfl⟩
     rw[List.take_of_length_le (nR _)]at N;have yf:=lj g2 rfl;have Zb:=XN.out;subst Zb;have K0:IsC wr B2 #[iV 0,.slice none 0 0,.slice none 0 0,iV 0,iV 0,.slice none 0 0,.slice none 0 0] 58:=h.b2;have v0:wr.cell? (aD B3 0)=some (iV f.c.length):=by rw[h.b3.cell];rfl
     have v1:wr.cell? (aD B3 1)=some (sL P 0 A.ns.length (A.ns.length+Q.length)):=by rw[h.b3.cell];rfl
     have v2:wr.cell? (aD B3 2)=some (sL g2 0 f.r.length (f.r.length+m.length)):=by rw[h.b3.cell];rfl
     have v3:wr.cell? (aD B3 3)=some (iV f.next):=by rw[h.b3.cell];rfl
     have v4:wr.cell? (aD B3 4)=some (iV f.gen):=by rw[h.b3.cell];rfl
     have v5:wr.cell? (aD B3 5)=some (.slice I f.m.length J):=by rw[h.b3.cell];rfl
     have v6:wr.cell? (aD B3 6)=some (.slice K M L):=by rw[h.b3.cell];rfl
     have y0:wr.cell? (aD B2 0)=some (iV 0):=K0.c rfl;have z0:=K0.frozen 0;have K1:=K0.set 0 (iV f.c.length);have F1:Frm (fun k=>k=B2) wr (wr.setCell (aD B2 0) (iV f.c.length)):=Frm.set (S:=fun k=>k=B2) wr (p:=aD B2 0) rfl _;obtain⟨o,Db⟩:=eZ (wr.setCell (aD B2 0) (iV f.c.length));rw[Db]at K1 F1;have y1:o.cell? (aD B2 1)=some (.slice none 0 0):=K1.c rfl;have z1:=K1.frozen 1;have K2:=K1.set 1 (sL P 0 A.ns.length (A.ns.length+Q.length));have F2:Frm (fun k=>k=B2) o (o.setCell (aD B2 1) (sL P 0 A.ns.length (A.ns.length+Q.length))):=Frm.set (S:=fun k=>k=B2) o (p:=aD B2 1) rfl _;obtain⟨l,AR⟩:=eZ (o.setCell (aD B2 1) (sL P 0 A.ns.length (A.ns.length+Q.length)));rw[AR]at K2 F2;have y2:l.cell? (aD B2 2)=some (.slice none 0 0):=K2.c rfl;have z2:=K2.frozen 2;have K3:=K2.set 2 (sL g2 0 f.r.length (f.r.length+m.length));have F3:Frm (fun k=>k=B2) l (l.setCell (aD B2 2) (sL g2 0 f.r.length (f.r.length+m.length))):=Frm.set (S:=fun k=>k=B2) l (p:=aD B2 2) rfl _;obtain⟨W3,C7⟩:=eZ (l.setCell (aD B2 2) (sL g2 0 f.r.length (f.r.length+m.length)));rw[C7]at K3 F3;have y3:W3.cell? (aD B2 3)=some (iV 0):=K3.c rfl;have z3:=K3.frozen 3;have K4:=K3.set 3 (iV f.next);have F4:Frm (fun k=>k=B2) W3 (W3.setCell (aD B2 3) (iV f.next)):=Frm.set (S:=fun k=>k=B2) W3 (p:=aD B2 3) rfl _;obtain⟨W4,Nh⟩:=eZ (W3.setCell (aD B2 3) (iV f.next));rw[Nh]at K4 F4;have y4:W4.cell? (aD B2 4)=some (iV 0):=K4.c rfl;have z4:=K4.frozen 4;have K5:=K4.set 4 (iV f.gen);have F5:Frm (fun k=>k=B2) W4 (W4.setCell (aD B2 4) (iV f.gen)):=Frm.set (S:=fun k=>k=B2) W4 (p:=aD B2 4) rfl _;obtain⟨W5,C8⟩:=eZ (W4.setCell (aD B2 4) (iV f.gen));rw[C8]at K5 F5;have y5:W5.cell? (aD B2 5)=some (.slice none 0 0):=K5.c rfl;have z5:=K5.frozen 5;have K6:=K5.set 5 (.slice I f.m.length J);have F6:Frm (fun k=>k=B2) W5 (W5.setCell (aD B2 5) (.slice I f.m.length J)):=Frm.set (S:=fun k=>k=B2) W5 (p:=aD B2 5) rfl _;obtain⟨W6,YJ⟩:=eZ (W5.setCell (aD B2 5) (.slice I f.m.length J));rw[YJ]at K6 F6;have y6:W6.cell? (aD B2 6)=some (.slice none 0 0):=K6.c rfl;have z6:=K6.frozen 6;have K7:=K6.set 6 (.slice K M L);have F7:Frm (fun k=>k=B2) W6 (W6.setCell (aD B2 6) (.slice K M L)):=Frm.set (S:=fun k=>k=B2) W6 (p:=aD B2 6) rfl _;obtain⟨U,R1⟩:=eZ (W6.setCell (aD B2 6) (.slice K M L));rw[R1]at K7 F7;have u0:U.cell? (aD B2 0)=some (iV f.c.length):=K7.c rfl;have u1:U.cell? (aD B2 1)=some (sL P 0 A.ns.length (A.ns.length+Q.length)):=K7.c rfl;have u2:U.cell? (aD B2 2)=some (sL g2 0 f.r.length (f.r.length+m.length)):=K7.c rfl;have u3:U.cell? (aD B2 3)=some (iV f.next):=K7.c rfl;have u4:U.cell? (aD B2 4)=some (iV f.gen):=K7.c rfl;have u5:U.cell? (aD B2 5)=some (.slice I f.m.length J):=K7.c rfl;have u6:U.cell? (aD B2 6)=some (.slice K M L):=K7.c rfl;have F:Frm (fun k=>k=B2) wr U:=(((((F1.trans F2).trans F3).trans F4).trans F5).trans F6).trans F7;have xw:Bl w U:=h.bk.trans (F.below h.bk.size fun g e=>by subst e;have:=h.dc;exact h.ey);have jq:=L2.out U xw;have r7:=N.ae F (fun g e=>(N.arr g e).ab K0 (by decide));have n7:=Iu.ae F (fun g e=>(Iu.arr g e).ab K0 (by decide));have XR:Hid (PS (.returned (.agg #[iV f.c.length,sL P 0 A.ns.length (A.ns.length+Q.length),sL g2 0 f.r.length (f.r.length+m.length),iV f.next,iV f.gen,.slice I f.m.length J,.slice K M L])) U):=by
      show PS _ _
      rw[Qt.out];refine XT.out _ _ {A with ga:=P,nj:=Q,gr:=g2,rj:=m} ?_ ⟨⟨n7.arr P rfl,fun b d hd=>jq.aq.nd b d hd,n7.small⟩,jq.ln,r7.arr g2 rfl,r7.small,jq.m⟩ rfl XB.out yf xw;unfold stV aL;rw[Lu.out.1,Lu.out.2.1]
     clear m2 h N Iu lj AQ jq r7 n7 F F1 F2 F3 F4 F5 F6 F7 K0 K1 K2 K3 K4 K5 K6 K7 xw;go_wp2;refine bodyPost_ret (v:=.agg #[iV f.c.length,sL P 0 A.ns.length (A.ns.length+Q.length),sL g2 0 f.r.length (f.r.length+m.length),iV f.next,iV f.gen,.slice I f.m.length J,.slice K M L]) (by simp[results,Tryz.results45,Tryz.f45,go_sem,u0,u1,u2,u3,u4,u5,u6];try rfl) rfl ?_;exact XR.out
theorem aCC(b:16<=f.r.length\/65535<=f.next)(w:World)(S:Nat)(A:SA)(a:Sp w S A f):
  Calls Tryz.prog 47 #[pT S 0,iV t] w fun r w'=>r=.returned (.tuple #[iV 0,iV 4])/\w'=w:=by
 obtain⟨_,_,e,g,_⟩:=a.cells;by_cases q:16<=f.r.length
 ·have c:(16:Int)<=(f.r.length:Int):=by omega
  clear a b q;go_enter Tryz.func47,Tryz.ntmps47;go_wp2;refine bodyPost_ret (v:=.tuple #[iV 0,iV 4]) (by simp[results,Tryz.f47,go_sem]) rfl ?_;exact⟨rfl,rfl⟩
 ·have c:¬((16:Int)<=(f.r.length:Int)):=by omega
  have d:(65535:Int)<=f.next:=b.resolve_left q;clear a b q;go_enter Tryz.func47,Tryz.ntmps47;go_wp2;refine bodyPost_ret (v:=.tuple #[iV 0,iV 4]) (by simp[results,Tryz.f47,go_sem]) rfl ?_;exact⟨rfl,rfl⟩
theorem aFV(h1:f.r.length=1)(w:World)(S:Nat)(A:SA)(a:Sp w S A f):
  Calls Tryz.prog 48 #[pT S 0,iV t] w fun r w'=>r=.returned (.tuple #[iV 0,iV 18])/\w'=w:=by
 obtain⟨_,_,b,_⟩:=a.cells;rw[h1]at b;clear a;go_enter Tryz.func48,Tryz.ntmps48;go_wp2;refine bodyPost_ret (v:=.tuple #[iV 0,iV 18]) (by simp[results,Tryz.f48,go_sem]) rfl ?_;exact⟨rfl,rfl⟩
def opM(f:fZ)(kind tree:Int)(key val:ByteArray):fZ×An:=
 if(aV f kind tree key val).2≠0 then(f,(aV f kind tree key val).2,0,.empty)else
 if kind=1 then kQ f (aV f kind tree key val).1 key val else
 if kind=2 then kV f (aV f kind tree key val).1 key else
 if kind=3 then kP f (aV f kind tree key val).1 else
 if kind=4 then mG f (aV f kind tree key val).1 else mH f (aV f kind tree key val).1 key
structure pW(f g:fZ):Prop where
 inv:Inv g
 ve:VE g
 gen:g.gen=f.gen
 m:g.m=f.m
 table:g.table=f.table
 c:g.c.length=f.c.length
theorem pW.refl(h:Inv f)(a:VE f):pW f f:=⟨h,a,rfl,rfl,rfl,rfl⟩
theorem aJI(h:Inv f)(d:VE f)(ht:t<f.r.length)(key val:ByteArray):pW f (kQ f t key val).1:=by
 obtain⟨e,j,_⟩:=h.hOf ht;unfold kQ;split
 ·exact .refl h d
 ·rename_i g l i
  split
  ·exact .refl h d
  ·obtain⟨k,a,b,c⟩:=xO e j i
   exact⟨h.after a b c,aOR e d i,c.gen,c.m,c.table,c.c⟩
theorem aJF(h:Inv f)(d:VE f)(ht:t<f.r.length)(key:ByteArray):pW f (kV f t key).1:=by
 obtain⟨e,i,_⟩:=h.hOf ht;unfold kV;split
 ·exact .refl h d
 ·rename_i v l
  have j:=jM e.ok l;split
  ·exact .refl h d
  ·rename_i g k
   split
   ·exact .refl h d
   ·obtain⟨m,a,b,c⟩:=pR e i j k
    exact⟨h.after a b c,aHA e i j d k,c.gen,c.m,c.table,c.c⟩
theorem aJD(h:Inv f)(a:VE f)(ht:t<f.r.length):pW f (kP f t).1:=by
 unfold kP;split
 ·exact .refl h a
 ·rename_i b
  exact⟨h.clone ht (by omega) (by omega),aKV a t,rfl,rfl,rfl,by simp[cS]⟩
theorem aJG(h:Inv f)(g:VE f)(ht:t<f.r.length):pW f (mG f t).1:=by
 obtain⟨i,j,_⟩:=h.hOf ht;unfold mG;split
 ·exact .refl h g
 ·obtain⟨a,_,_,b,_,_,c,d,e,_⟩:=nT h ht (by omega) i.ok
  exact⟨a,aMX h g ht (by omega) i.ok,c,d,e,b⟩
theorem aJH(h:Inv f)(a:VE f)(t:Nat)(key:ByteArray):pW f (mH f t key).1:=by
 unfold mH;split
 ·exact .refl h a
 ·exact .refl h a
theorem nL(h:Inv f){kind tree:Int}{key val:ByteArray}:(aV f kind tree key val).1<f.r.length:=by
 have:=h.ne
 unfold aV;split
 ·exact this
 ·split
  ·exact this
  ·split
   ·exact this
   ·rename_i t ht
    split
    ·exact this
    ·exact(mP ht).1
theorem aMH(h:Inv f)(a:VE f)(kind tree:Int)(key val:ByteArray):pW f (opM f kind tree key val).1:=by
 have ht:=nL h (kind:=kind) (tree:=tree) (key:=key) (val:=val);unfold opM;split
 ·exact .refl h a
 ·split
  ·exact aJI h a ht key val
  ·split
   ·exact aJF h a ht key
   ·split
    ·exact aJD h a ht
    ·split
     ·exact aJG h a ht
     ·exact aJH h a _ key
theorem IsC.range{t:TypeId}(h:IsC w g cs t):w.rangeAt g 0 cs.toList:=fun j v a=>by
 rw[Nat.zero_add,h.cell];simpa using a
theorem IsC.there{t:TypeId}(h:IsC w g cs t):w.there g 0 cs.size:=fun j a=>by
 rw[Nat.zero_add,h.cell];exact⟨by simp[a],h.frozen j⟩
theorem IsC.lay{t:TypeId}(h:IsC w g cs t)(a:vs.size=cs.size):IsC (w.setCells g 0 vs.toList) g vs t:=by
 have:=IsC.a8 (cs:=cs.toList) vs.toList 0 (by simpa using h) (by simp;omega)
 have e:spl cs.toList 0 vs.toList=vs.toList:=by
  unfold spl;rw[List.take_zero,List.nil_append,List.drop_of_length_le (by simp;omega),List.append_nil]
 rw[e]at this;simpa using this
theorem aM(b:TypeId)(x y:Operand)(f:o.op=.store b x y)(g:Nat)(c:IsC w g cs b)(hx:a.eval x=pT g 0)(hy:a.eval y=.agg vs)(d:vs.size=cs.size)
  (e:(Tryz.prog.info? b).map (·.size)=some vs.size) (h1:vs.all (·.oneCell')=true) (h:∀w',IsC w' g vs b->Frm (fun k=>k=g) w w'->K (a.put o.dst undef) w'):o.wp Tryz.prog a w K Q:=
 wp_store_mid b x y f g 0 vs hx hy (by rw[d];exact c.there) e h1 (h _ (c.lay d) (Frm.a8 (S:=fun k=>k=g) _ rfl _ _))
theorem lM(b:TypeId)(x:Operand)(i:o.op=.load b x)(g:Nat)(f:IsC w g cs b)(hx:a.eval x=pT g 0)(hr:(Tryz.prog.underlying b).map (·.isRow)=some true)(h:(Tryz.prog.info? b).map (·.size)=some cs.size):
  (execOp a.eval o).run Tryz.prog w=.ok (.value (.agg cs)) w:=by
 obtain⟨d,j,c⟩:∃d,Tryz.prog.underlying b=some d/\d.isRow=true:=by
  cases e:Tryz.prog.underlying b with
  | none=>rw[e]at hr;cases hr
  | some d=>rw[e]at hr;exact⟨d,rfl,by simpa using hr⟩
 unfold execOp;simp only[i,hx,Instr.loadAt,Instr.sureAddr,Sem.run_bind,Sem.run_pure,Result.andThen_ok,run_loadVar_mid w g 0 b cs.toList d f.range j c (by simpa using h),Array.toArray_toList]
theorem aFU(c:Int)(w:World):Calls Tryz.prog 44 #[iV c] w fun e w'=>e=.returned (bZ (c,0,.empty))/\Bl w w':=by
 have b:=jS;go_enter Tryz.func44,Tryz.ntmps44;go_wp2;have a:=IsC.new w #[iV c,iV 0,.string {data:=#[]}] 31;have u0:(w.alloc (.cells #[iV c,iV 0,.string {data:=#[]}] 31)).cell? (aD w.heap.size 0)=some (iV c):=a.c rfl;have u1:(w.alloc (.cells #[iV c,iV 0,.string {data:=#[]}] 31)).cell? (aD w.heap.size 1)=some (iV 0):=a.c rfl;have u2:(w.alloc (.cells #[iV c,iV 0,.string {data:=#[]}] 31)).cell? (aD w.heap.size 2)=some (.string {data:=#[]}):=a.c rfl;refine bodyPost_ret (v:=bZ (c,0,.empty)) (by simp[bZ,results,Tryz.results44,Tryz.f44,go_sem,u0,u1,u2];try rfl) rfl ?_;exact⟨rfl,(bQ _ w).alloc (nR _) _⟩
def aBJ(pos:String)(d1 d2:Nat)(c:Int):Array Oper:=
 #[{dst:=some d1,op:=.load 58 (.tmp 2),type:=58,pos:=pos,after:=#[],guard:=none},
  {dst:=some d2,op:=.call {callee:=.value (.func 44),args:=#[.const (iV c)],argTypes:=#[2]},type:=31,pos:=pos,after:=#[],guard:=none},
  {dst:=none,op:=.store 58 (.tmp 4) (.tmp d1),type:=0,pos:=pos,after:=#[{on:=0,ground:=.data},{on:=1,ground:=.chain},{on:=0,ground:=.phase},{on:=1,ground:=.textOnly .lateStoresUnsure}],guard:=none},
  {dst:=none,op:=.store 31 (.tmp 5) (.tmp d2),type:=0,pos:=pos,after:=#[{on:=1,ground:=.data},{on:=2,ground:=.chain},{on:=0,ground:=.phase},{on:=1,ground:=.phase},{on:=2,ground:=.phase}],guard:=none}]
theorem gB{ri:Nat}{pos:String}{d1 d2:Nat}{c:Int}{y4 y5:Array Value}(h2:IsC w B2 x 58)(hx:x.size=7)(B:x.all (·.oneCell')=true)(o:IsC w B4 y4 58)(j:y4.size=7)(p:IsC w B5 y5 31)(l:y5.size=3)
  (n:B2≠B4) (e2:a.eval (.tmp 2)=pT B2 0) (u:∀v1 v2,((a.put (some d1) v1).put (some d2) v2).eval (.tmp 4)=pT B4 0) (y:∀v1 v2,((a.put (some d1) v1).put (some d2) v2).eval (.tmp 5)=pT B5 0)
  (z:∀v1 v2,((a.put (some d1) v1).put (some d2) v2).eval (.tmp d1)=v1) (A:∀v1 v2,((a.put (some d1) v1).put (some d2) v2).eval (.tmp d2)=v2)
  (r:Region.free .any (aBJ pos d1 d2 c) (Array.replicate (aBJ pos d1 d2 c).size false) 0=true)
  (C:∀c a' w v,Q (.panic c) (a'.put (some d1) v) w->Q (.panic c) a' w)
  (h:∀w',IsC w' B4 x 58->IsC w' B5 #[iV c,iV 0,.string .empty] 31->Frm (fun k=>k=B4\/k=B5) w w'->Q .normal ((a.put (some d1) (.agg x)).put (some d2) (bZ (c,0,.empty))) w'):
  (Code.region ri (aBJ pos d1 d2 c) true).wp Tryz.prog Q a w:=by
 refine bB (fun W=>IsC W B2 x 58) 3 (by kernel_rfl) ?_;have s:IsC w.drew B2 x 58:=h2.drew;refine wH (i:=0) d1 (.agg x) (by kernel_rfl) rfl (by kernel_rfl) r (by kernel_rfl) (fun c a' w D=>C c a' w _ D) rfl rfl s (fun w' E=>lM _ _ rfl B2 E e2 (by kernel_rfl) (by rw[hx];kernel_rfl)) ?_;refine oE 1 rfl fun K2 b=>?_;show Oper.wp Tryz.prog {dst:=some d2,op:=.call {callee:=.value (.func 44),args:=#[.const (iV c)],argTypes:=#[2]},type:=31,pos:=pos,after:=#[],guard:=none} _ _ _ _
 go_simp
 refine(aFU c w.drew).mono ?_;rintro e w1 ⟨rfl,t⟩;have m:Frm (fun _=>False) w w1:=(Frm.drew _ w).trans (Frm.aa t);refine b _ _ (fun _=>h2.ae m id) ?_;clear b K2;refine oE 2 rfl fun K2 b=>?_;refine aM _ _ _ rfl B4 (o.ae m id) (u _ _) (z _ _) (hx.trans j.symm) (by rw[hx];kernel_rfl) B fun I F H=>?_;have g:Frm (fun k=>k=B4) w I:=(m.wide fun _ _ q=>q.elim).trans H;have f:B5≠B4:=p.ab o (by decide);refine b _ _ (fun _=>h2.ae g n) ?_;clear b K2;refine oE 3 rfl fun K2 b=>?_;refine aM (vs:=#[iV c,iV 0,.string .empty]) _ _ _ rfl B5 (p.ae g f) (y _ _) (A _ _) l.symm (by kernel_rfl) (by simp[Value.oneCell']) fun J G d=>?_;refine b _ _ (fun q=>absurd rfl q) ?_;clear b K2;refine aT (by kernel_rfl) ?_ _;exact h J (F.ae d (Ne.symm f)) G ((g.wide fun _ _ q=>.inl q).trans (d.wide fun _ _ q=>.inr q))
theorem cP(x:Operand)(d:o.op=.load 58 x)(g:Nat)(b:IsC w g cs 58)(hx:a.eval x=pT g 0)(c:cs.size=7)(h:K (a.put o.dst (.agg cs)) w):o.wp Tryz.prog a w K Q:=by
 unfold Oper.wp;rw[lM _ x d g b hx (by kernel_rfl) (by rw[c];kernel_rfl)];exact h
theorem dD(A:SA)(f:fZ):(aL A f).size=7:=rfl
theorem dT(h:SpV w A f)(ht:∃a n c,A.tv=.slice a n c):(aL A f).all (·.oneCell')=true:=by
 obtain⟨d,g,b⟩:=h.m.len;obtain⟨a,n,c,e⟩:=ht;unfold aL;rw[b,e];simp[Value.oneCell']
theorem Inv.el(h:Inv f):CtS f:=⟨h.ic,h.br,fun b d a=>by have:=h.ai a;omega,h.db⟩
structure OpP(w:World)(r:fZ×An)(e:Ending)(w':World):Prop where
 ex:∃A',e=.returned (.tuple #[.agg (aL A' r.1),bZ r.2])/\SpV w' A' r.1/\∃a n c,A'.tv=.slice a n c
 bk:Bl w w'
theorem kE{ty:TypeId}(b:IsC w g cs ty)(hr:(Tryz.prog.underlying ty).map (·.isRow)=some true)(c:(Tryz.prog.info? ty).map (·.size)=some cs.size):(loadVar ty ⟨g,0,none⟩).run Tryz.prog w=.ok (.agg cs) w:=by
 obtain⟨d,f,a⟩:∃d,Tryz.prog.underlying ty=some d/\d.isRow=true:=by
  cases e:Tryz.prog.underlying ty with
  | none=>rw[e]at hr;cases hr
  | some d=>rw[e]at hr;exact⟨d,rfl,by simpa using hr⟩
 have:=run_loadVar_mid (P:=Tryz.prog) w g 0 ty cs.toList d b.range f a (by simpa using c)
 simpa using this
theorem bH{a:Array Value}{y:Array Value}(d:IsC w B4 x 58)(e:IsC w B5 y 31)(hx:x.size=7)(hy:y.size=3)(b:a.getD 4 undef=pT B4 0)(c:a.getD 5 undef=pT B5 0):
  (results Tryz.f33 a).run Tryz.prog w=.ok (.tuple #[.agg x,.agg y]) w:=by
 have f:=kE d (by kernel_rfl) (by rw[hx];kernel_rfl);have g:=kE e (by kernel_rfl) (by rw[hy];kernel_rfl);simp only[Array.getD_eq_getD_getElem?]at b c;simp[results,Tryz.f33,b,c,asAddr,f,g]
theorem OpP.bad(d:SpV w A f)(e:∃a n c,A.tv=.slice a n c)(b:Bl w w')(c:Int):OpP w (f,c,0,.empty) (.returned (.tuple #[.agg (aL A f),.agg #[iV c,iV 0,.string .empty]])) w':=
 ⟨⟨A,rfl,d.below b,e⟩,b⟩
theorem aFW(kind tree:Int)(key val:ByteArray)(N:inB kind 1 6=false)(w:World)(A:SA)(hS:SpV w A f)(kh:∃a n c,A.tv=.slice a n c):
  Calls Tryz.prog 33 #[.agg (aL A f),.agg #[iV kind,iV tree,.string key,.string val]] w (OpP w (opM f kind tree key val)):=by
 have j:=dD A f;have H:=dT hS kh;have M:=aA fun(w':World) (y:Bl w w') (c:Int)=>OpP.bad hS kh y c;obtain⟨x,F⟩:=eZ (aL A f);rw[F]at j H M;rw[F];have L3:=aA F;clear F;obtain⟨r,S⟩:∃r,Hid (opM f kind tree key val=r):=⟨_,rfl⟩;rw[S.out];obtain⟨w1,X⟩:=eZ (w.alloc (.cells x 58));obtain⟨P,de⟩:=eZ (w1.alloc (.cells #[iV kind,iV tree,.string key,.string val] 33));obtain⟨Q,di⟩:=eZ (P.alloc (.cells #[iV 0,.slice none 0 0,.slice none 0 0,iV 0,iV 0,.slice none 0 0,.slice none 0 0] 58));obtain⟨i,Z⟩:=eZ (Q.alloc (.cells #[iV 0,iV 0,.string {data:=#[]}] 31));obtain⟨B2,Y⟩:=eZ (w.heap.size);obtain⟨B3,fv⟩:=eZ (w1.heap.size);obtain⟨B4,du⟩:=eZ (P.heap.size);obtain⟨B5,su⟩:=eZ (Q.heap.size);have t:∀(u:World) (o:Obj) (v:World),u.alloc o=v->Bl u v/\v.heap.size=u.heap.size+1:=fun u o v e=>by rw[<-e];exact⟨(bQ _ u).alloc (nR _) _,by simp⟩
 have s:∀(u:World) (cs:Array Value) (O:TypeId) (v:World),u.alloc (.cells cs O)=v->IsC v u.heap.size cs O:=fun u cs O v e=>by rw[<-e];exact IsC.new _ _ _
 obtain⟨T,s1⟩:=t _ _ _ X;obtain⟨U,s2⟩:=t _ _ _ de;obtain⟨V,s3⟩:=t _ _ _ di;obtain⟨W,s4⟩:=t _ _ _ Z;have C:=s _ _ _ _ X;have D:=s _ _ _ _ de;have E:=s _ _ _ _ di;have p:=s _ _ _ _ Z;rw[Y]at C;rw[fv]at D;rw[du]at E;rw[su]at p;have g:Bl Q i:=W;have d:Bl P i:=V.trans (g.mono (by omega));have b:Bl w1 i:=U.trans (d.mono (by omega));have l:Bl w i:=T.trans (b.mono (by omega));have z:IsC i B2 x 58:=C.of (b.block _ C.lt);have I:=D.of (d.block _ D.lt);have B:=E.of (g.block _ E.lt);have m:B2≠B4:=by omega
 have k0:i.cell? (aD B3 0)=some (iV kind):=I.c rfl;have HD:=aA (aI s1 (aI s2 (aI s3 (aI s4 (aI Y (aI fv (aI du su)))))));have Ak:Hid (w.heap.size<=B4/\w.heap.size<=B5):=(show _/\_ from by omega);have rz:Hid (∀(R w':World),Bl w R->Frm (fun k=>k=B4\/k=B5) R w'->Bl w w'):=fun R w' y hF=>y.trans (hF.below y.size fun k e=>by have:=Ak.out;rcases e with e | e<;>omega);have G:inB kind 1 6=false->aV f kind tree key val=(0,5):=fun q=>by unfold aV;rw[if_pos q]
 clear t s T U V W C D E g d b s1 s2 s3 s4;go_enter Tryz.func33,Tryz.ntmps33;have HA:Hid (r=(f,5,0,.empty)):=by
  show r=_
  rw[<-S.out];unfold opM;rw[G N];rfl
 rw[HA.out];by_cases q1:kind<1
 ·clear G
  go_wp2
  refine gB (d1:=23) (d2:=24) (c:=5) z j H B rfl p rfl m rfl (fun _ _=>rfl) (fun _ _=>rfl) (fun _ _=>rfl) (fun _ _=>rfl) (by kernel_rfl) (fun _ _ _ _ h=>h) (fun w' J K L=>?_);clear z I B p k0;simp only[Act.put,sB,sZ,sS];go_wp2;refine bodyPost_ret (v:=.tuple #[.agg x,.agg #[iV 5,iV 0,.string .empty]]) (bH J K j rfl rfl rfl) rfl ?_;exact M.out w' (rz.out _ _ l L) 5
 ·have q2:6<kind:=by unfold inB at N;simp at N;omega
  clear G;go_wp2;refine gB (d1:=23) (d2:=24) (c:=5) z j H B rfl p rfl m rfl (fun _ _=>rfl) (fun _ _=>rfl) (fun _ _=>rfl) (fun _ _=>rfl) (by kernel_rfl) (fun _ _ _ _ h=>h) (fun w' J K L=>?_);clear z I B p k0;simp only[Act.put,sB,sZ,sS];go_wp2;refine bodyPost_ret (v:=.tuple #[.agg x,.agg #[iV 5,iV 0,.string .empty]]) (bH J K j rfl rfl rfl) rfl ?_;exact M.out w' (rz.out _ _ l L) 5
