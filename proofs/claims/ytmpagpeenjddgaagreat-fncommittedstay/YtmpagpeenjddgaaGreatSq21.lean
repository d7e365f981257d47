import Derived.Test.YtmpagpeenjddgaaGreatSq16
import Derived.Test.YtmpagpeenjddgaaGreatHq32
set_option maxHeartbeats 9999999
set_option maxRecDepth 99999
set_option linter.all false
namespace Go.Proofs.YtmpagpeenjddgaaGreat
open Go.RowKit Fo
variable{a:Act}{K:Act->World->Prop}{cs vs x:Array Value}{Q:Exit->Act->World->Prop}{B1 B2 B3 B4 B5 g t:Nat}{o:Oper}{A:SA}{NS RS cv gn n nv nx rv tv:Value}{w w' wr:World}{f:fZ}
def stV(A:SA)(f:fZ):Value:=.agg (aL A f)
structure Cpy(w:World)(n NS RS nx gn cv tv:Value)(B1 B2 B3:Nat)(nv rv:Value)(wr:World):Prop where
 b1:IsC wr B1 #[n,NS,RS,nx,gn,cv,tv] 58
 b2:IsC wr B2 #[.int .i64 0,.slice none 0 0,.slice none 0 0,.int .i64 0,.int .i64 0,.slice none 0 0,.slice none 0 0] 58
 b3:IsC wr B3 #[n,nv,rv,nx,gn,cv,tv] 58
 bb:Bl w wr
 c9:B1≠B3/\B2≠B3/\w.heap.size<=B3
 eu:w.heap.size<=B2
structure CpR{α:Type}(Y:Ely α)(w:World)(n NS RS nx gn cv tv:Value)(B1 B2 B3:Nat)(fst:Bool)(ov:Value)(l:List α)(j:Nat)(wr:World):Prop where
 ex:∃ag jk,Cpy w n NS RS nx gn cv tv B1 B2 B3 (if fst then .slice (adr ag) j (j+jk.length)else ov) (if fst then ov else .slice (adr ag) j (j+jk.length)) wr/\Y.Rw wr ag (l.take j) jk/\∀g,ag=some g->w.heap.size<=g
theorem Cpy.ae{S:Nat->Prop}(h:Cpy w n NS RS nx gn cv tv B1 B2 B3 nv rv wr)(k:Frm S wr w')(a:∀g,S g->w.heap.size<=g/\g≠B1/\g≠B2/\g≠B3):Cpy w n NS RS nx gn cv tv B1 B2 B3 nv rv w':=
 ⟨h.b1.ae k fun q=>(a _ q).2.1 rfl,h.b2.ae k fun q=>(a _ q).2.2.1 rfl,h.b3.ae k fun q=>(a _ q).2.2.2 rfl,h.bb.trans (k.below h.bb.size fun g q=>(a g q).1),h.c9,h.eu⟩
theorem Cpy.ew(h:Cpy w n NS RS nx gn cv tv B1 B2 B3 nv rv wr)(v:Value):Cpy w n NS RS nx gn cv tv B1 B2 B3 v rv (wr.setCell ⟨B3,1,none⟩ v):=
 ⟨h.b1.set_ne v h.c9.1,h.b2.set_ne v h.c9.2.1,h.b3.set 1 v,h.bb.trans ((bQ _ wr).setCell (p:=⟨B3,1,none⟩) h.c9.2.2 v),h.c9,h.eu⟩
theorem Cpy.de(h:Cpy w n NS RS nx gn cv tv B1 B2 B3 nv rv wr)(v:Value):Cpy w n NS RS nx gn cv tv B1 B2 B3 nv v (wr.setCell ⟨B3,2,none⟩ v):=
 ⟨h.b1.set_ne v h.c9.1,h.b2.set_ne v h.c9.2.1,h.b3.set 2 v,h.bb.trans ((bQ _ wr).setCell (p:=⟨B3,2,none⟩) h.c9.2.2 v),h.c9,h.eu⟩
theorem mW(w:World)(A:SA)(hS:SpV w A f)(h8:0<f.c.length)(h5:f.c.length<=512)(h1:0<f.r.length)(jy:f.r.length<=100)(jl:∃a n c,A.tv=.slice a n c):
  Calls Tryz.prog 45 #[stV A f] w fun r w'=>∃A',r=.returned (stV A' f)/\SpV w' A' f/\A'.tv=A.tv/\w.heap.size<=A'.ga/\w.heap.size<=A'.gr/\Bl w w':=by
 have Ot:=aA hS.ln;obtain⟨B1,fe⟩:=eZ (w.heap.size);obtain⟨K,M,L,jl⟩:=jl;obtain⟨I,J,qt⟩:=hS.m.len;have WK:Hid (∀(r:Ending) (w':World) (A':SA),r=.returned (stV A' f)->SpV w' A' f->A'.tv=A.tv->w.heap.size<=A'.ga->w.heap.size<=A'.gr->Bl w w'->∃A',r=.returned (stV A' f)/\SpV w' A' f/\A'.tv=A.tv/\w.heap.size<=A'.ga/\w.heap.size<=A'.gr/\Bl w w'):=fun r w' A' a b c d e g=>⟨A',a,b,c,d,e,g⟩;obtain⟨PS,hPS⟩:∃PS:Ending->World->Prop,PS=fun r w'=>∃A',r=.returned (stV A' f)/\SpV w' A' f/\A'.tv=A.tv/\w.heap.size<=A'.ga/\w.heap.size<=A'.gr/\Bl w w':=⟨_,rfl⟩;rw[<-hPS];have QE:=aA hPS;clear hPS;have rq:stV A f=.agg #[.int .i64 f.c.length,.slice (some ⟨A.ga,0,none⟩) A.ns.length (A.ns.length+A.nj.length),.slice (some ⟨A.gr,0,none⟩) f.r.length (f.r.length+A.rj.length),.int .i64 f.next,.int .i64 f.gen,.slice I f.m.length J,.slice K M L]:=by unfold stV aL;rw[qt,jl]
 rw[rq];have LU:=aA (aI qt (aI jl rq));clear qt jl rq;obtain⟨w1,ci⟩:=eZ (w.alloc (.cells #[.int .i64 f.c.length,.slice (some ⟨A.ga,0,none⟩) A.ns.length (A.ns.length+A.nj.length),.slice (some ⟨A.gr,0,none⟩) f.r.length (f.r.length+A.rj.length),.int .i64 f.next,.int .i64 f.gen,.slice I f.m.length J,.slice K M L] 58));obtain⟨B2,di⟩:=eZ (w1.heap.size);obtain⟨w2,dh⟩:=eZ (w1.alloc (.cells #[.int .i64 0,.slice none 0 0,.slice none 0 0,.int .i64 0,.int .i64 0,.slice none 0 0,.slice none 0 0] 58));obtain⟨B3,fv⟩:=eZ (w2.heap.size);obtain⟨w3,V⟩:=eZ (w2.alloc (.cells #[.int .i64 f.c.length,.slice none 0 0,.slice (some ⟨A.gr,0,none⟩) f.r.length (f.r.length+A.rj.length),.int .i64 f.next,.int .i64 f.gen,.slice I f.m.length J,.slice K M L] 58));have e1:=bAl ci;have e2:=bAl dh;have e3:=bAl V;have c1:=iNw ci fe;have c2:=iNw dh di;have X:=iNw V fv;have H:=c1.of (e2.block _ c1.lt);have q0:w2.cell? ⟨B1,0,none⟩=some (.int .i64 f.c.length):=H.c rfl;have q1:w2.cell? ⟨B1,1,none⟩=some (.slice (some ⟨A.ga,0,none⟩) A.ns.length (A.ns.length+A.nj.length)):=H.c rfl;have q2:w2.cell? ⟨B1,2,none⟩=some (.slice (some ⟨A.gr,0,none⟩) f.r.length (f.r.length+A.rj.length)):=H.c rfl;have q3:w2.cell? ⟨B1,3,none⟩=some (.int .i64 f.next):=H.c rfl;have q4:w2.cell? ⟨B1,4,none⟩=some (.int .i64 f.gen):=H.c rfl;have q5:w2.cell? ⟨B1,5,none⟩=some (.slice I f.m.length J):=H.c rfl;have q6:w2.cell? ⟨B1,6,none⟩=some (.slice K M L):=H.c rfl;have UF:Cpy w (.int .i64 f.c.length) (.slice (some ⟨A.ga,0,none⟩) A.ns.length (A.ns.length+A.nj.length)) (.slice (some ⟨A.gr,0,none⟩) f.r.length (f.r.length+A.rj.length)) (.int .i64 f.next) (.int .i64 f.gen) (.slice I f.m.length J) (.slice K M L) B1 B2 B3 (.slice none 0 0) (.slice (some ⟨A.gr,0,none⟩) f.r.length (f.r.length+A.rj.length)) w3:=
  ⟨(c1.of (e2.block _ c1.lt)).of (e3.block _ (lL c1.lt e2.size)),c2.of (e3.block _ c2.lt),X,e1.trans ((e2.trans (e3.mono e2.size)).mono e1.size),by have:=c1.lt;have:=c2.lt;have:=e1.size;have:=e2.size;omega,by have:=e1.size;omega⟩
 have Ta:=aA UF;have LX:=aA fun(w':World) (hb:Bl w w')=>hS.below hb;have Rr:=hS.aq.arr.lt;have Ry:=hS.bo.lt;clear e1 e2 e3 c1 c2 X H UF hS;go_enter Tryz.func45,Tryz.ntmps45;go_wp2;go_loopw [4] (fun i wr=>∃j:Nat,j<=A.ns.length/\i=.int .i64 j/\CpR yN w (.int .i64 f.c.length) (.slice (some ⟨A.ga,0,none⟩) A.ns.length (A.ns.length+A.nj.length)) (.slice (some ⟨A.gr,0,none⟩) f.r.length (f.r.length+A.rj.length)) (.int .i64 f.next) (.int .i64 f.gen) (.slice I f.m.length J) (.slice K M L) B1 B2 B3 true (.slice (some ⟨A.gr,0,none⟩) f.r.length (f.r.length+A.rj.length)) A.ns j wr) (fun i _=>A.ns.length -(intOf i).toNat)
 case atStart=>exact⟨0,by omega,rfl,⟨none,[],Ta.out,⟨fun g e=>(by cases e),fun _=>⟨by simp,rfl⟩,by simp⟩,fun g e=>(by cases e)⟩⟩
 case round=>
  clear Ta ci dh V;obtain⟨j,hj,rfl,⟨t,m,h,N,lq⟩⟩:=hrel;simp only[if_true]at h;have m1:wr.cell? ⟨B1,1,none⟩=some (.slice (some ⟨A.ga,0,none⟩) A.ns.length (A.ns.length+A.nj.length)):=by rw[h.b1.cell];rfl
  have m2:wr.cell? ⟨B3,1,none⟩=some (.slice (adr t) j (j+m.length)):=by rw[h.b3.cell];rfl
  have AE:=LX.out wr h.bb;by_cases ak:j<A.ns.length
  ·have Ki:(j:Int) <(A.ns.length:Int):=by omega
   have Zf:j<600:=by have:=Ot.out;omega
   have U:∀(W:World),W.heap[A.ga]?=wr.heap[A.ga]?->W.cell? ⟨A.ga,j*2,none⟩=some (.int .i64 (A.ns.getD j nv0).1)/\W.cell? ⟨A.ga,j*2+1,none⟩=some (.slice (A.ns.getD j nv0).2.1 (A.ns.getD j nv0).2.2.1 (A.ns.getD j nv0).2.2.2):=fun W he=>by
    have hx:∀i,i<2->W.cell? ⟨A.ga,j*2+i,none⟩=(aDK (A.ns.getD j nv0))[i]?:=fun i hi=>by
     have h0:W.cell? ⟨A.ga,j*2+i,none⟩=wr.cell? ⟨A.ga,j*2+i,none⟩:=by simp[World.cell?,he]
     rw[h0,AE.aq.arr.cell];have:=yN.at (A.ns++A.nj) (i:=j) (j:=i) (by simp;omega) hi;have e2:(A.ns++A.nj).getD j yN.z=A.ns.getD j nv0:=by rw[dB,if_pos ak];rfl
     rw[e2]at this;exact this
    exact⟨hx 0 (by omega),hx 1 (by omega)⟩
   have MN:=aA (cH A.ns j nv0 ak);have Ao:(A.ns.take j).length=j:=by simp;omega
   obtain⟨m3,m4⟩:=U wr rfl;obtain⟨⟨z,B,x3,x4⟩,OZ⟩:∃x,A.ns.getD j nv0=x:=⟨_,rfl⟩;rw[OZ]at m3 m4 U MN;simp only at m3 m4 U;have E:wr.drew.cell? ⟨B1,1,none⟩=some (.slice (some ⟨A.ga,0,none⟩) A.ns.length (A.ns.length+A.nj.length))/\wr.drew.cell? ⟨B3,1,none⟩=some (.slice (adr t) j (j+m.length))/\wr.drew.cell? ⟨A.ga,j*2,none⟩=some (.int .i64 z)/\wr.drew.cell? ⟨A.ga,j*2+1,none⟩=some (.slice B x3 x4):=⟨m1,m2,m3,m4⟩;have HC:=aA h;have MI:=aA N;have Ij:=aA lq;have vg:=aA U;have MD:=aA Ao;have BE:Hid (j+1<=A.ns.length):=ak;clear U OZ h N lq AE Ao;go_wp2;refine bA (fun W=>W.cell? ⟨B1,1,none⟩=some (.slice (some ⟨A.ga,0,none⟩) A.ns.length (A.ns.length+A.nj.length))/\W.cell? ⟨B3,1,none⟩=some (.slice (adr t) j (j+m.length))/\W.cell? ⟨A.ga,j*2,none⟩=some (.int .i64 z)/\W.cell? ⟨A.ga,j*2+1,none⟩=some (.slice B x3 x4)) 10 (by kernel_rfl) ?_;refine tJ 0 15 (.pointer (some ⟨B3,1,none⟩)) rfl E ?_;refine tJ 1 16 (.slice (adr t) j (j+m.length)) rfl E ?_;refine tJ 2 17 (.pointer (some ⟨B1,1,none⟩)) rfl E ?_;refine tJ 3 18 (.slice (some ⟨A.ga,0,none⟩) A.ns.length (A.ns.length+A.nj.length)) rfl E ?_;refine tJ 4 19 (.int .i64 j) rfl E ?_;refine tJ 5 20 (.pointer (some ⟨A.ga,j*2,none⟩)) rfl E ?_;refine tJ 6 21 (.agg #[.int .i64 z,.slice B x3 x4]) rfl E ?_;simp only[Act.put,sB,sZ,sS];refine oE 7 rfl fun K2 s=>?_;go_simp;obtain⟨G,HG⟩:=exH (wr.heap.size);obtain⟨o,EA⟩:=exH ((wr.alloc (.cells #[.int .i64 z,.slice B x3 x4] 96)).drew);rw[<-EA.out,<-HG.out];have FR:Bl wr o:=by rw[EA.out];exact((bQ _ wr).alloc (nR _) _).drew
   have Q:Frm (fun _=>False) wr o:=Frm.aa FR;have ko:yN.Sl o (.slice (some ⟨G,0,none⟩) 1 1) [(z,B,x3,x4)]:=by
    rw[EA.out,HG.out];exact(Ely.Sl.new (Y:=yN) wr (z,B,x3,x4) rfl).below (bQ _ _).drew
   have D:=HC.out.ae Q (fun _ q=>q.elim);have R:=MI.out.ae Q (fun _ _=>id);have CH:A.ga<wr.heap.size:=lL Rr HC.out.bb.size;have zu:=vg.out o (Q.block _ CH id);have uy:o.cell? ⟨B1,1,none⟩=some (.slice (some ⟨A.ga,0,none⟩) A.ns.length (A.ns.length+A.nj.length))/\o.cell? ⟨B3,1,none⟩=some (.slice (adr t) j (j+m.length))/\o.cell? ⟨A.ga,j*2,none⟩=some (.int .i64 z)/\o.cell? ⟨A.ga,j*2+1,none⟩=some (.slice B x3 x4):=⟨by rw[D.b1.cell];rfl,by rw[D.b3.cell];rfl,zu.1,zu.2⟩;obtain⟨u,l,O,y,sr,hu,sy,ms,d8⟩:=yN.append t (A.ns.take j) m [(z,B,x3,x4)] _ o R ko (by have:=Ot.out;rw[MD.out];simp;omega);rw[MD.out]at sr hu;have Cy:u=.slice (adr O) (j+1) (j+1+y.length):=hu;have aw:∀g,t=some g->g≠B1/\g≠B2/\g≠B3:=fun g e=>⟨(R.arr g e).ab D.b1 (by decide),(R.arr g e).ab D.b2 (by decide),(R.arr g e).ab D.b3 (by decide)⟩;have C:=D.ae d8 (fun g e=>⟨Ij.out g e,aw g e⟩);have qw:=vg.out l ((d8.block A.ga (lL CH FR.size) (fun e=>by have:=Ij.out _ e;omega)).trans (Q.block _ CH id));have X:l.cell? ⟨B3,1,none⟩=some (.slice (adr t) j (j+m.length)):=by rw[C.b3.cell];rfl
   have z3:=C.b3.frozen 1;have iw:l.cell? ⟨B1,1,none⟩=some (.slice (some ⟨A.ga,0,none⟩) A.ns.length (A.ns.length+A.nj.length))/\l.cell? ⟨B3,1,none⟩=some (.slice (adr t) j (j+m.length))/\l.cell? ⟨A.ga,j*2,none⟩=some (.int .i64 z)/\l.cell? ⟨A.ga,j*2+1,none⟩=some (.slice B x3 x4):=⟨by rw[C.b1.cell];rfl,X,qw.1,qw.2⟩;have AM:∀g,O=some g->w.heap.size<=g:=fun g e=>(ms g e).elim (Ij.out g) fun q=>lT D.bb.size q;have Du:∀g,O=some g->¬g=B3:=fun g e=>(sy.arr g e).ab C.b3 (by decide);have D8:Hid (CpR yN w (.int .i64 f.c.length) (.slice (some ⟨A.ga,0,none⟩) A.ns.length (A.ns.length+A.nj.length)) (.slice (some ⟨A.gr,0,none⟩) f.r.length (f.r.length+A.rj.length)) (.int .i64 f.next) (.int .i64 f.gen) (.slice I f.m.length J) (.slice K M L) B1 B2 B3 true (.slice (some ⟨A.gr,0,none⟩) f.r.length (f.r.length+A.rj.length)) A.ns (j+1) (l.setCell ⟨B3,1,none⟩ (.slice (adr O) (j+1) (j+1+y.length)))):=by
    refine⟨O,y,C.ew _,?_,AM⟩;rw[MN.out];exact sy.ae (Frm.set (S:=fun k=>k=B3) l (p:=⟨B3,1,none⟩) rfl _) Du
   refine s _ _ (fun _=>uy) ?_;clear s K2 E;refine oE 8 rfl fun K2 s=>?_;refine lW _ _ _ _ rfl 23 rfl _ _ rfl rfl u l (sr _) ?_;simp only[Act.put,sB,sZ,sS];subst Cy;refine s _ _ (fun _=>iw) ?_;clear s K2 uy hu sr;refine oE 9 rfl fun K2 s=>?_;go_simp;refine s _ _ (fun _=>iw) ?_;clear s K2;refine oE 10 rfl fun K2 s=>?_;go_simp;refine s _ _ (fun q=>absurd rfl q) ?_;clear s K2;refine aS (by kernel_rfl) ?_ _;clear D C R sy Q d8 zu qw ms aw AM Du ko FR;obtain⟨w3,V⟩:=eZ (l.setCell ⟨B3,1,none⟩ (.slice (adr O) (j+1) (j+1+y.length)));rw[V]at D8;rw[V];clear V X z3;go_wp2;go_roundw
   case rel=>exact⟨j+1,BE.out,by go_num,D8.out⟩
   case measure=>have:=BE.out;simp[intOf];omega
  ·obtain rfl:j=A.ns.length:=by omega
   have PL:∃g,t=some g:=by
    cases t with
    | none=>have e:=(N.nil rfl).1;rw[List.take_of_length_le (nR _)]at e;have:=Ot.out;rw[e]at this;simp at this;omega
    | some g=>exact⟨g,rfl⟩
   obtain⟨g1,rfl⟩:=PL;obtain⟨P,rfl⟩:∃P,P=m:=⟨_,rfl⟩;rw[List.take_of_length_le (nR _)]at N;have z3:=h.b3.frozen 2;have X:wr.cell? ⟨B3,2,none⟩=some (.slice (some ⟨A.gr,0,none⟩) f.r.length (f.r.length+A.rj.length)):=by rw[h.b3.cell];rfl
   have C:=h.de (.slice none 0 0);have LG:=N.ae (Frm.set (S:=fun k=>k=B3) wr (p:=⟨B3,2,none⟩) rfl (.slice none 0 0)) (fun g e=>(N.arr g e).ab h.b3 (by decide));have li:=lq g1 rfl;obtain⟨w4,cx⟩:=eZ (wr.setCell ⟨B3,2,none⟩ (.slice none 0 0));obtain⟨NV1,Qs⟩:=eZ (Value.slice (adr (some g1)) A.ns.length (A.ns.length+P.length));rw[cx]at C LG;rw[Qs]at C;have Cb:=aA C;have Ba:=aA LG;have WE:=aA Qs;have V0:=aA li;clear C LG Qs N h AE lq li;go_wp2;go_loopw [5] (fun i wr=>∃j:Nat,j<=f.r.length/\i=.int .i64 j/\CpR yT w (.int .i64 f.c.length) (.slice (some ⟨A.ga,0,none⟩) A.ns.length (A.ns.length+A.nj.length)) (.slice (some ⟨A.gr,0,none⟩) f.r.length (f.r.length+A.rj.length)) (.int .i64 f.next) (.int .i64 f.gen) (.slice I f.m.length J) (.slice K M L) B1 B2 B3 false NV1 f.r j wr/\yN.Rw wr (some g1) A.ns P) (fun i _=>f.r.length -(intOf i).toNat)
   case atStart=>exact⟨0,by omega,rfl,⟨none,[],Cb.out,⟨fun g e=>(by cases e),fun _=>⟨by simp,rfl⟩,by simp⟩,fun g e=>(by cases e)⟩,Ba.out⟩
   case round=>
    clear Cb Ba cx z3 X;obtain⟨j,hj,rfl,⟨t,m,h,N,lq⟩,IU⟩:=hrel;simp only[if_false,Bool.false_eq_true]at h;have m1:wr.cell? ⟨B1,2,none⟩=some (.slice (some ⟨A.gr,0,none⟩) f.r.length (f.r.length+A.rj.length)):=by rw[h.b1.cell];rfl
    have m2:wr.cell? ⟨B3,2,none⟩=some (.slice (adr t) j (j+m.length)):=by rw[h.b3.cell];rfl
    have AE:=LX.out wr h.bb;by_cases ak:j<f.r.length
    ·have Ki:(j:Int) <(f.r.length:Int):=by omega
     have U:∀(W:World),W.heap[A.gr]?=wr.heap[A.gr]?->W.cell? ⟨A.gr,j*2,none⟩=some (.int .i64 (f.r.getD j (0,0)).1)/\W.cell? ⟨A.gr,j*2+1,none⟩=some (.int .i64 (f.r.getD j (0,0)).2):=fun W he=>by
      have hx:∀i,W.cell? ⟨A.gr,i,none⟩=wr.cell? ⟨A.gr,i,none⟩:=fun i=>by simp[World.cell?,he]
      rw[hx,hx];exact AE.root ak
     have MN:=aA (cH f.r j (0,0) ak);have Ao:(f.r.take j).length=j:=by simp;omega
     obtain⟨m3,m4⟩:=U wr rfl;obtain⟨⟨z,B⟩,OZ⟩:∃x,f.r.getD j (0,0)=x:=⟨_,rfl⟩;rw[OZ]at m3 m4 U MN;simp only at m3 m4 U;have E:wr.drew.cell? ⟨B1,2,none⟩=some (.slice (some ⟨A.gr,0,none⟩) f.r.length (f.r.length+A.rj.length))/\wr.drew.cell? ⟨B3,2,none⟩=some (.slice (adr t) j (j+m.length))/\wr.drew.cell? ⟨A.gr,j*2,none⟩=some (.int .i64 z)/\wr.drew.cell? ⟨A.gr,j*2+1,none⟩=some (.int .i64 B):=⟨m1,m2,m3,m4⟩;have HC:=aA h;have MI:=aA N;have Iu:=aA IU;have Ij:=aA lq;have vg:=aA U;have MD:=aA Ao;have BE:Hid (j+1<=f.r.length):=ak;clear U OZ h N lq AE Ao IU;go_wp2;refine bA (fun W=>W.cell? ⟨B1,2,none⟩=some (.slice (some ⟨A.gr,0,none⟩) f.r.length (f.r.length+A.rj.length))/\W.cell? ⟨B3,2,none⟩=some (.slice (adr t) j (j+m.length))/\W.cell? ⟨A.gr,j*2,none⟩=some (.int .i64 z)/\W.cell? ⟨A.gr,j*2+1,none⟩=some (.int .i64 B)) 10 (by kernel_rfl) ?_;refine tJ 0 33 (.pointer (some ⟨B3,2,none⟩)) rfl E ?_;refine tJ 1 34 (.slice (adr t) j (j+m.length)) rfl E ?_;refine tJ 2 35 (.pointer (some ⟨B1,2,none⟩)) rfl E ?_;refine tJ 3 36 (.slice (some ⟨A.gr,0,none⟩) f.r.length (f.r.length+A.rj.length)) rfl E ?_;refine tJ 4 37 (.int .i64 j) rfl E ?_;refine tJ 5 38 (.pointer (some ⟨A.gr,j*2,none⟩)) rfl E ?_;refine tJ 6 39 (.agg #[.int .i64 z,.int .i64 B]) rfl E ?_;simp only[Act.put,sB,sZ,sS];refine oE 7 rfl fun K2 s=>?_;go_simp;obtain⟨G,HG⟩:=exH (wr.heap.size);obtain⟨o,EA⟩:=exH ((wr.alloc (.cells #[.int .i64 z,.int .i64 B] 92)).drew);rw[<-EA.out,<-HG.out];have FR:Bl wr o:=by rw[EA.out];exact((bQ _ wr).alloc (nR _) _).drew
     have Q:Frm (fun _=>False) wr o:=Frm.aa FR;have ko:yT.Sl o (.slice (some ⟨G,0,none⟩) 1 1) [(z,B)]:=by
      rw[EA.out,HG.out];exact(Ely.Sl.new (Y:=yT) wr (z,B) rfl).below (bQ _ _).drew
     have D:=HC.out.ae Q (fun _ q=>q.elim);have R:=MI.out.ae Q (fun _ _=>id);have CH:A.gr<wr.heap.size:=lL Ry HC.out.bb.size;have zu:=vg.out o (Q.block _ CH id);have uy:o.cell? ⟨B1,2,none⟩=some (.slice (some ⟨A.gr,0,none⟩) f.r.length (f.r.length+A.rj.length))/\o.cell? ⟨B3,2,none⟩=some (.slice (adr t) j (j+m.length))/\o.cell? ⟨A.gr,j*2,none⟩=some (.int .i64 z)/\o.cell? ⟨A.gr,j*2+1,none⟩=some (.int .i64 B):=⟨by rw[D.b1.cell];rfl,by rw[D.b3.cell];rfl,zu.1,zu.2⟩;obtain⟨u,l,O,y,sr,hu,sy,ms,d8⟩:=yT.append t (f.r.take j) m [(z,B)] _ o R ko (by have:=Ot.out;rw[MD.out];simp;omega);rw[MD.out]at sr hu;have Cy:u=.slice (adr O) (j+1) (j+1+y.length):=hu;have aw:∀g,t=some g->g≠B1/\g≠B2/\g≠B3:=fun g e=>⟨(R.arr g e).ab D.b1 (by decide),(R.arr g e).ab D.b2 (by decide),(R.arr g e).ab D.b3 (by decide)⟩;have C:=D.ae d8 (fun g e=>⟨Ij.out g e,aw g e⟩);have qw:=vg.out l ((d8.block A.gr (lL CH FR.size) (fun e=>by have:=Ij.out _ e;omega)).trans (Q.block _ CH id));have X:l.cell? ⟨B3,2,none⟩=some (.slice (adr t) j (j+m.length)):=by rw[C.b3.cell];rfl
     have z3:=C.b3.frozen 2;have iw:l.cell? ⟨B1,2,none⟩=some (.slice (some ⟨A.gr,0,none⟩) f.r.length (f.r.length+A.rj.length))/\l.cell? ⟨B3,2,none⟩=some (.slice (adr t) j (j+m.length))/\l.cell? ⟨A.gr,j*2,none⟩=some (.int .i64 z)/\l.cell? ⟨A.gr,j*2+1,none⟩=some (.int .i64 B):=⟨by rw[C.b1.cell];rfl,X,qw.1,qw.2⟩;have AM:∀g,O=some g->w.heap.size<=g:=fun g e=>(ms g e).elim (Ij.out g) fun q=>lT D.bb.size q;have Du:∀g,O=some g->¬g=B3:=fun g e=>(sy.arr g e).ab C.b3 (by decide);have D8:Hid (CpR yT w (.int .i64 f.c.length) (.slice (some ⟨A.ga,0,none⟩) A.ns.length (A.ns.length+A.nj.length)) (.slice (some ⟨A.gr,0,none⟩) f.r.length (f.r.length+A.rj.length)) (.int .i64 f.next) (.int .i64 f.gen) (.slice I f.m.length J) (.slice K M L) B1 B2 B3 false NV1 f.r (j+1) (l.setCell ⟨B3,2,none⟩ (.slice (adr O) (j+1) (j+1+y.length)))):=by
      refine⟨O,y,C.de _,?_,AM⟩;rw[MN.out];exact sy.ae (Frm.set (S:=fun k=>k=B3) l (p:=⟨B3,2,none⟩) rfl _) Du
     refine s _ _ (fun _=>uy) ?_;clear s K2 E;refine oE 8 rfl fun K2 s=>?_;refine lW _ _ _ _ rfl 41 rfl _ _ rfl rfl u l (sr _) ?_;simp only[Act.put,sB,sZ,sS];subst Cy;refine s _ _ (fun _=>iw) ?_;clear s K2 uy hu sr;refine oE 9 rfl fun K2 s=>?_;go_simp;refine s _ _ (fun _=>iw) ?_;clear s K2;refine oE 10 rfl fun K2 s=>?_;go_simp;refine s _ _ (fun q=>absurd rfl q) ?_;clear s K2;refine aS (by kernel_rfl) ?_ _;have MH:Hid (yN.Rw (l.setCell ⟨B3,2,none⟩ (.slice (adr O) (j+1) (j+1+y.length))) (some g1) A.ns P):=by
      have k1:=Iu.out.ae Q (fun _ _=>id);have k2:=k1.ae d8 (fun g e q=>(k1.arr g e).ab (R.arr g q) (by decide) rfl);exact k2.ae (Frm.set (S:=fun k=>k=B3) l (p:=⟨B3,2,none⟩) rfl _) (fun g e=>(k2.arr g e).ab C.b3 (by decide))
     clear D C R sy Q d8 zu qw ms aw AM Du ko FR;obtain⟨w3,V⟩:=eZ (l.setCell ⟨B3,2,none⟩ (.slice (adr O) (j+1) (j+1+y.length)));rw[V]at D8 MH;rw[V];clear V X z3;go_wp2;go_roundw
     case rel=>exact⟨j+1,BE.out,by go_num,D8.out,MH.out⟩
     case measure=>have:=BE.out;simp[intOf];omega
    ·obtain rfl:j=f.r.length:=by omega
     obtain⟨Z,rfl⟩:∃g,t=some g:=by
      cases t with
      | none=>have e:=(N.nil rfl).1;rw[List.take_of_length_le (nR _)]at e;rw[e]at h1;simp at h1
      | some g=>exact⟨g,rfl⟩
     rw[List.take_of_length_le (nR _)]at N;have ws:=lq Z rfl;have YV:=WE.out;subst YV;have K0:IsC wr B2 #[.int .i64 0,.slice none 0 0,.slice none 0 0,.int .i64 0,.int .i64 0,.slice none 0 0,.slice none 0 0] 58:=h.b2;have v0:wr.cell? ⟨B3,0,none⟩=some (.int .i64 f.c.length):=by rw[h.b3.cell];rfl
     have v1:wr.cell? ⟨B3,1,none⟩=some (.slice (some ⟨g1,0,none⟩) A.ns.length (A.ns.length+P.length)):=by rw[h.b3.cell];rfl
     have v2:wr.cell? ⟨B3,2,none⟩=some (.slice (some ⟨Z,0,none⟩) f.r.length (f.r.length+m.length)):=by rw[h.b3.cell];rfl
     have v3:wr.cell? ⟨B3,3,none⟩=some (.int .i64 f.next):=by rw[h.b3.cell];rfl
     have v4:wr.cell? ⟨B3,4,none⟩=some (.int .i64 f.gen):=by rw[h.b3.cell];rfl
     have v5:wr.cell? ⟨B3,5,none⟩=some (.slice I f.m.length J):=by rw[h.b3.cell];rfl
     have v6:wr.cell? ⟨B3,6,none⟩=some (.slice K M L):=by rw[h.b3.cell];rfl
     have y0:wr.cell? ⟨B2,0,none⟩=some (.int .i64 0):=K0.c rfl;have z0:=K0.frozen 0;have K1:=K0.set 0 (.int .i64 f.c.length);have F1:Frm (fun k=>k=B2) wr (wr.setCell ⟨B2,0,none⟩ (.int .i64 f.c.length)):=Frm.set (S:=fun k=>k=B2) wr (p:=⟨B2,0,none⟩) rfl _;obtain⟨o,DK⟩:=eZ (wr.setCell ⟨B2,0,none⟩ (.int .i64 f.c.length));rw[DK]at K1 F1;have y1:o.cell? ⟨B2,1,none⟩=some (.slice none 0 0):=K1.c rfl;have z1:=K1.frozen 1;have K2:=K1.set 1 (.slice (some ⟨g1,0,none⟩) A.ns.length (A.ns.length+P.length));have F2:Frm (fun k=>k=B2) o (o.setCell ⟨B2,1,none⟩ (.slice (some ⟨g1,0,none⟩) A.ns.length (A.ns.length+P.length))):=Frm.set (S:=fun k=>k=B2) o (p:=⟨B2,1,none⟩) rfl _;obtain⟨l,AF⟩:=eZ (o.setCell ⟨B2,1,none⟩ (.slice (some ⟨g1,0,none⟩) A.ns.length (A.ns.length+P.length)));rw[AF]at K2 F2;have y2:l.cell? ⟨B2,2,none⟩=some (.slice none 0 0):=K2.c rfl;have z2:=K2.frozen 2;have K3:=K2.set 2 (.slice (some ⟨Z,0,none⟩) f.r.length (f.r.length+m.length));have F3:Frm (fun k=>k=B2) l (l.setCell ⟨B2,2,none⟩ (.slice (some ⟨Z,0,none⟩) f.r.length (f.r.length+m.length))):=Frm.set (S:=fun k=>k=B2) l (p:=⟨B2,2,none⟩) rfl _;obtain⟨W3,Cm⟩:=eZ (l.setCell ⟨B2,2,none⟩ (.slice (some ⟨Z,0,none⟩) f.r.length (f.r.length+m.length)));rw[Cm]at K3 F3;have y3:W3.cell? ⟨B2,3,none⟩=some (.int .i64 0):=K3.c rfl;have z3:=K3.frozen 3;have K4:=K3.set 3 (.int .i64 f.next);have F4:Frm (fun k=>k=B2) W3 (W3.setCell ⟨B2,3,none⟩ (.int .i64 f.next)):=Frm.set (S:=fun k=>k=B2) W3 (p:=⟨B2,3,none⟩) rfl _;obtain⟨W4,M8⟩:=eZ (W3.setCell ⟨B2,3,none⟩ (.int .i64 f.next));rw[M8]at K4 F4;have y4:W4.cell? ⟨B2,4,none⟩=some (.int .i64 0):=K4.c rfl;have z4:=K4.frozen 4;have K5:=K4.set 4 (.int .i64 f.gen);have F5:Frm (fun k=>k=B2) W4 (W4.setCell ⟨B2,4,none⟩ (.int .i64 f.gen)):=Frm.set (S:=fun k=>k=B2) W4 (p:=⟨B2,4,none⟩) rfl _;obtain⟨W5,AG⟩:=eZ (W4.setCell ⟨B2,4,none⟩ (.int .i64 f.gen));rw[AG]at K5 F5;have y5:W5.cell? ⟨B2,5,none⟩=some (.slice none 0 0):=K5.c rfl;have z5:=K5.frozen 5;have K6:=K5.set 5 (.slice I f.m.length J);have F6:Frm (fun k=>k=B2) W5 (W5.setCell ⟨B2,5,none⟩ (.slice I f.m.length J)):=Frm.set (S:=fun k=>k=B2) W5 (p:=⟨B2,5,none⟩) rfl _;obtain⟨W6,XK⟩:=eZ (W5.setCell ⟨B2,5,none⟩ (.slice I f.m.length J));rw[XK]at K6 F6;have y6:W6.cell? ⟨B2,6,none⟩=some (.slice none 0 0):=K6.c rfl;have z6:=K6.frozen 6;have K7:=K6.set 6 (.slice K M L);have F7:Frm (fun k=>k=B2) W6 (W6.setCell ⟨B2,6,none⟩ (.slice K M L)):=Frm.set (S:=fun k=>k=B2) W6 (p:=⟨B2,6,none⟩) rfl _;obtain⟨T,Q9⟩:=eZ (W6.setCell ⟨B2,6,none⟩ (.slice K M L));rw[Q9]at K7 F7;have u0:T.cell? ⟨B2,0,none⟩=some (.int .i64 f.c.length):=K7.c rfl;have u1:T.cell? ⟨B2,1,none⟩=some (.slice (some ⟨g1,0,none⟩) A.ns.length (A.ns.length+P.length)):=K7.c rfl;have u2:T.cell? ⟨B2,2,none⟩=some (.slice (some ⟨Z,0,none⟩) f.r.length (f.r.length+m.length)):=K7.c rfl;have u3:T.cell? ⟨B2,3,none⟩=some (.int .i64 f.next):=K7.c rfl;have u4:T.cell? ⟨B2,4,none⟩=some (.int .i64 f.gen):=K7.c rfl;have u5:T.cell? ⟨B2,5,none⟩=some (.slice I f.m.length J):=K7.c rfl;have u6:T.cell? ⟨B2,6,none⟩=some (.slice K M L):=K7.c rfl;have F:Frm (fun k=>k=B2) wr T:=(((((F1.trans F2).trans F3).trans F4).trans F5).trans F6).trans F7;have wl:Bl w T:=h.bb.trans (F.below h.bb.size fun g e=>by subst e;have:=h.c9;exact h.eu);have i9:=LX.out T wl;have r7:=N.ae F (fun g e=>(N.arr g e).ab K0 (by decide));have n7:=IU.ae F (fun g e=>(IU.arr g e).ab K0 (by decide));have WJ:Hid (PS (.returned (.agg #[.int .i64 f.c.length,.slice (some ⟨g1,0,none⟩) A.ns.length (A.ns.length+P.length),.slice (some ⟨Z,0,none⟩) f.r.length (f.r.length+m.length),.int .i64 f.next,.int .i64 f.gen,.slice I f.m.length J,.slice K M L])) T):=by
      show PS _ _
      rw[QE.out];refine WK.out _ _ {A with ga:=g1,nj:=P,gr:=Z,rj:=m} ?_ ⟨⟨n7.arr g1 rfl,fun b d hd=>i9.aq.nd b d hd,n7.small⟩,i9.ln,r7.arr Z rfl,r7.small,i9.m⟩ rfl V0.out ws wl;unfold stV aL;rw[LU.out.1,LU.out.2.1]
     clear m2 h N IU lq AE i9 r7 n7 F F1 F2 F3 F4 F5 F6 F7 K0 K1 K2 K3 K4 K5 K6 K7 wl;go_wp2;refine bodyPost_ret (v:=.agg #[.int .i64 f.c.length,.slice (some ⟨g1,0,none⟩) A.ns.length (A.ns.length+P.length),.slice (some ⟨Z,0,none⟩) f.r.length (f.r.length+m.length),.int .i64 f.next,.int .i64 f.gen,.slice I f.m.length J,.slice K M L]) (by simp[results,Tryz.results45,Tryz.f45,go_sem,u0,u1,u2,u3,u4,u5,u6];try rfl) rfl ?_;exact WJ.out
theorem sT(v:Value)(l:List Int)(w:World)(d:y64.Sl w v l)(z:l.length<=1000):Calls Tryz.prog 25 #[v] w fun e w'=>∃u,e=.returned u/\y64.Own w.heap.size w' u l/\Bl w w':=by
 have h:=aA fun(w':World) (a:Bl w w')=>d.below a;obtain⟨D,E,rfl⟩:=d.len;clear d;go_enter Tryz.func25,Tryz.ntmps25;go_wp2;go_loopw [3,4] (fun u i wr=>∃k:Nat,k<=l.length/\i=.int .i64 k/\y64.Own w.heap.size wr u (l.take k)/\Bl w wr) (fun _ i _=>l.length -(intOf i).toNat)
 case atStart=>exact⟨0,Nat.zero_le _,rfl,Ely.Own.lit _ _ (nR _) _ rfl,(bQ _ _).alloc (nR _) _⟩
 case round=>
  obtain⟨k,y,rfl,b,a⟩:=hrel;have q:=a.size;by_cases j:k<l.length
  ·have B:(k:Int) <(l.length:Int):=by omega
   obtain⟨g,o,c,e,s,n⟩:=(h.out wr a).at (by omega:0<l.length);cases e;have f:=n k 0 j (by decide);have e0:o+k*y64.n+0=o+k:=by show o+k*1+0=o+k;omega
   have F:wr.cell? ⟨g,o+k,none⟩=some (.int .i64 (l.getD k 0)):=by rw[e0]at f;exact f
   have p:=aA (cH l k 0 j);have t:(l.take k).length<1000000:=by simp;omega
   clear f e0 n s h;generalize l.take k=ys at *;generalize l.getD k 0=x at *;go_wp2_with (first | (at_builtin;refine y64.av rfl _ _ rfl b rfl x rfl rfl t q ?_;intro C w1 m r A) | go_in);rw[<-p.out]at m;go_roundw
   case rel=>exact⟨k+1,by omega,by go_num,m,a.trans r⟩
   case measure=>simp[intOf];omega
  ·obtain rfl:k=l.length:=by omega
   rw[List.take_of_length_le (nR _)]at b;go_wp2;go_ret;exact⟨_,rfl,b,a⟩
theorem aCC(b:16<=f.r.length\/65535<=f.next)(w:World)(S:Nat)(A:SA)(a:Sp w S A f):
  Calls Tryz.prog 47 #[.pointer (some ⟨S,0,none⟩),.int .i64 t] w fun r w'=>r=.returned (.tuple #[.int .i64 0,.int .i64 4])/\w'=w:=by
 obtain⟨_,_,e,g,_⟩:=a.cells;by_cases q:16<=f.r.length
 ·have c:(16:Int)<=(f.r.length:Int):=by omega
  clear a b q;go_enter Tryz.func47,Tryz.ntmps47;go_wp2;refine bodyPost_ret (v:=.tuple #[.int .i64 0,.int .i64 4]) (by simp[results,Tryz.f47,go_sem]) rfl ?_;exact⟨rfl,rfl⟩
 ·have c:¬((16:Int)<=(f.r.length:Int)):=by omega
  have d:(65535:Int)<=f.next:=b.resolve_left q;clear a b q;go_enter Tryz.func47,Tryz.ntmps47;go_wp2;refine bodyPost_ret (v:=.tuple #[.int .i64 0,.int .i64 4]) (by simp[results,Tryz.f47,go_sem]) rfl ?_;exact⟨rfl,rfl⟩
theorem aFS(h1:f.r.length=1)(w:World)(S:Nat)(A:SA)(a:Sp w S A f):
  Calls Tryz.prog 48 #[.pointer (some ⟨S,0,none⟩),.int .i64 t] w fun r w'=>r=.returned (.tuple #[.int .i64 0,.int .i64 18])/\w'=w:=by
 obtain⟨_,_,b,_⟩:=a.cells;rw[h1]at b;clear a;go_enter Tryz.func48,Tryz.ntmps48;go_wp2;refine bodyPost_ret (v:=.tuple #[.int .i64 0,.int .i64 18]) (by simp[results,Tryz.f48,go_sem]) rfl ?_;exact⟨rfl,rfl⟩
def opM(f:fZ)(kind tree:Int)(key val:ByteArray):fZ×An:=
 if(aT f kind tree key val).2≠0 then(f,(aT f kind tree key val).2,0,.empty)else
 if kind=1 then kS f (aT f kind tree key val).1 key val else
 if kind=2 then kX f (aT f kind tree key val).1 key else
 if kind=3 then kR f (aT f kind tree key val).1 else
 if kind=4 then mH f (aT f kind tree key val).1 else mI f (aT f kind tree key val).1 key
structure pV(f g:fZ):Prop where
 inv:Inv g
 ve:VE g
 gen:g.gen=f.gen
 m:g.m=f.m
 table:g.table=f.table
 c:g.c.length=f.c.length
theorem pV.refl(h:Inv f)(a:VE f):pV f f:=⟨h,a,rfl,rfl,rfl,rfl⟩
theorem aIZ(h:Inv f)(d:VE f)(ht:t<f.r.length)(key val:ByteArray):pV f (kS f t key val).1:=by
 obtain⟨e,j,_⟩:=h.hOf ht;unfold kS;split
 ·exact .refl h d
 ·rename_i g l i
  split
  ·exact .refl h d
  ·obtain⟨k,a,b,c⟩:=xQ e j i
   exact⟨h.after a b c,aNY e d i,c.gen,c.m,c.table,c.c⟩
theorem aIW(h:Inv f)(d:VE f)(ht:t<f.r.length)(key:ByteArray):pV f (kX f t key).1:=by
 obtain⟨e,i,_⟩:=h.hOf ht;unfold kX;split
 ·exact .refl h d
 ·rename_i v l
  have j:=jQ e.ok l;split
  ·exact .refl h d
  ·rename_i g k
   split
   ·exact .refl h d
   ·obtain⟨m,a,b,c⟩:=pQ e i j k
    exact⟨h.after a b c,aGY e i j d k,c.gen,c.m,c.table,c.c⟩
theorem aIU(h:Inv f)(a:VE f)(ht:t<f.r.length):pV f (kR f t).1:=by
 unfold kR;split
 ·exact .refl h a
 ·rename_i b
  exact⟨h.clone ht (by omega) (by omega),aKN a t,rfl,rfl,rfl,by simp[cU]⟩
theorem aIX(h:Inv f)(g:VE f)(ht:t<f.r.length):pV f (mH f t).1:=by
 obtain⟨i,j,_⟩:=h.hOf ht;unfold mH;split
 ·exact .refl h g
 ·obtain⟨a,_,_,b,_,_,c,d,e,_⟩:=nT h ht (by omega) i.ok
  exact⟨a,aML h g ht (by omega) i.ok,c,d,e,b⟩
theorem aIY(h:Inv f)(a:VE f)(t:Nat)(key:ByteArray):pV f (mI f t key).1:=by
 unfold mI;split
 ·exact .refl h a
 ·exact .refl h a
theorem nK(h:Inv f){kind tree:Int}{key val:ByteArray}:(aT f kind tree key val).1<f.r.length:=by
 have:=h.ne
 unfold aT;split
 ·exact this
 ·split
  ·exact this
  ·split
   ·exact this
   ·rename_i t ht
    split
    ·exact this
    ·exact(mO ht).1
theorem aLW(h:Inv f)(a:VE f)(kind tree:Int)(key val:ByteArray):pV f (opM f kind tree key val).1:=by
 have ht:=nK h (kind:=kind) (tree:=tree) (key:=key) (val:=val);unfold opM;split
 ·exact .refl h a
 ·split
  ·exact aIZ h a ht key val
  ·split
   ·exact aIW h a ht key
   ·split
    ·exact aIU h a ht
    ·split
     ·exact aIX h a ht
     ·exact aIY h a _ key
theorem IsC.range{t:TypeId}(h:IsC w g cs t):w.rangeAt g 0 cs.toList:=fun j v a=>by
 rw[Nat.zero_add,h.cell];simpa using a
theorem IsC.there{t:TypeId}(h:IsC w g cs t):w.there g 0 cs.size:=fun j a=>by
 rw[Nat.zero_add,h.cell];exact⟨by simp[a],h.frozen j⟩
theorem IsC.lay{t:TypeId}(h:IsC w g cs t)(a:vs.size=cs.size):IsC (w.setCells g 0 vs.toList) g vs t:=by
 have:=IsC.a7 (cs:=cs.toList) vs.toList 0 (by simpa using h) (by simp;omega)
 have e:spl cs.toList 0 vs.toList=vs.toList:=by
  unfold spl;rw[List.take_zero,List.nil_append,List.drop_of_length_le (by simp;omega),List.append_nil]
 rw[e]at this;simpa using this
theorem aK(b:TypeId)(x y:Operand)(f:o.op=.store b x y)(g:Nat)(c:IsC w g cs b)(hx:a.eval x=.pointer (some ⟨g,0,none⟩))(hy:a.eval y=.agg vs)(d:vs.size=cs.size)
  (e:(Tryz.prog.info? b).map (·.size)=some vs.size) (h1:vs.all (·.oneCell')=true) (h:∀w',IsC w' g vs b->Frm (fun k=>k=g) w w'->K (a.put o.dst undef) w'):o.wp Tryz.prog a w K Q:=
 wp_store_mid b x y f g 0 vs hx hy (by rw[d];exact c.there) e h1 (h _ (c.lay d) (Frm.a7 (S:=fun k=>k=g) _ rfl _ _))
theorem lO(b:TypeId)(x:Operand)(i:o.op=.load b x)(g:Nat)(f:IsC w g cs b)(hx:a.eval x=.pointer (some ⟨g,0,none⟩))(hr:(Tryz.prog.underlying b).map (·.isRow)=some true)(h:(Tryz.prog.info? b).map (·.size)=some cs.size):
  (execOp a.eval o).run Tryz.prog w=.ok (.value (.agg cs)) w:=by
 obtain⟨d,j,c⟩:∃d,Tryz.prog.underlying b=some d/\d.isRow=true:=by
  cases e:Tryz.prog.underlying b with
  | none=>rw[e]at hr;cases hr
  | some d=>rw[e]at hr;exact⟨d,rfl,by simpa using hr⟩
 unfold execOp;simp only[i,hx,Instr.loadAt,Instr.sureAddr,Sem.run_bind,Sem.run_pure,Result.andThen_ok,run_loadVar_mid w g 0 b cs.toList d f.range j c (by simpa using h),Array.toArray_toList]
theorem aFR(c:Int)(w:World):Calls Tryz.prog 44 #[.int .i64 c] w fun e w'=>e=.returned (bW (c,0,.empty))/\Bl w w':=by
 have b:=jW;go_enter Tryz.func44,Tryz.ntmps44;go_wp2;have a:=IsC.new w #[.int .i64 c,.int .i64 0,.string {data:=#[]}] 31;have u0:(w.alloc (.cells #[.int .i64 c,.int .i64 0,.string {data:=#[]}] 31)).cell? ⟨w.heap.size,0,none⟩=some (.int .i64 c):=a.c rfl;have u1:(w.alloc (.cells #[.int .i64 c,.int .i64 0,.string {data:=#[]}] 31)).cell? ⟨w.heap.size,1,none⟩=some (.int .i64 0):=a.c rfl;have u2:(w.alloc (.cells #[.int .i64 c,.int .i64 0,.string {data:=#[]}] 31)).cell? ⟨w.heap.size,2,none⟩=some (.string {data:=#[]}):=a.c rfl;refine bodyPost_ret (v:=bW (c,0,.empty)) (by simp[bW,results,Tryz.results44,Tryz.f44,go_sem,u0,u1,u2];try rfl) rfl ?_;exact⟨rfl,(bQ _ w).alloc (nR _) _⟩
def aBI(pos:String)(d1 d2:Nat)(c:Int):Array Oper:=
 #[{dst:=some d1,op:=.load 58 (.tmp 2),type:=58,pos:=pos,after:=#[],guard:=none},
  {dst:=some d2,op:=.call {callee:=.value (.func 44),args:=#[.const (.int .i64 c)],argTypes:=#[2]},type:=31,pos:=pos,after:=#[],guard:=none},
  {dst:=none,op:=.store 58 (.tmp 4) (.tmp d1),type:=0,pos:=pos,after:=#[{on:=0,ground:=.data},{on:=1,ground:=.chain},{on:=0,ground:=.phase},{on:=1,ground:=.textOnly .lateStoresUnsure}],guard:=none},
  {dst:=none,op:=.store 31 (.tmp 5) (.tmp d2),type:=0,pos:=pos,after:=#[{on:=1,ground:=.data},{on:=2,ground:=.chain},{on:=0,ground:=.phase},{on:=1,ground:=.phase},{on:=2,ground:=.phase}],guard:=none}]
theorem gG{ri:Nat}{pos:String}{d1 d2:Nat}{c:Int}{y4 y5:Array Value}(h2:IsC w B2 x 58)(hx:x.size=7)(B:x.all (·.oneCell')=true)(m:IsC w B4 y4 58)(r:y4.size=7)(n:IsC w B5 y5 31)(s:y5.size=3)
  (l:B2≠B4) (e2:a.eval (.tmp 2)=.pointer (some ⟨B2,0,none⟩)) (u:∀v1 v2,((a.put (some d1) v1).put (some d2) v2).eval (.tmp 4)=.pointer (some ⟨B4,0,none⟩)) (y:∀v1 v2,((a.put (some d1) v1).put (some d2) v2).eval (.tmp 5)=.pointer (some ⟨B5,0,none⟩))
  (z:∀v1 v2,((a.put (some d1) v1).put (some d2) v2).eval (.tmp d1)=v1) (A:∀v1 v2,((a.put (some d1) v1).put (some d2) v2).eval (.tmp d2)=v2)
  (o:Region.free .any (aBI pos d1 d2 c) (Array.replicate (aBI pos d1 d2 c).size false) 0=true)
  (C:∀c a' w v,Q (.panic c) (a'.put (some d1) v) w->Q (.panic c) a' w)
  (h:∀w',IsC w' B4 x 58->IsC w' B5 #[.int .i64 c,.int .i64 0,.string .empty] 31->Frm (fun k=>k=B4\/k=B5) w w'->Q .normal ((a.put (some d1) (.agg x)).put (some d2) (bW (c,0,.empty))) w'):
  (Code.region ri (aBI pos d1 d2 c) true).wp Tryz.prog Q a w:=by
 refine bA (fun W=>IsC W B2 x 58) 3 (by kernel_rfl) ?_;have p:IsC w.drew B2 x 58:=h2.drew;refine wL (i:=0) d1 (.agg x) (by kernel_rfl) rfl (by kernel_rfl) o (by kernel_rfl) (fun c a' w D=>C c a' w _ D) rfl rfl p (fun w' E=>lO _ _ rfl B2 E e2 (by kernel_rfl) (by rw[hx];kernel_rfl)) ?_;refine oE 1 rfl fun K2 b=>?_;show Oper.wp Tryz.prog {dst:=some d2,op:=.call {callee:=.value (.func 44),args:=#[.const (.int .i64 c)],argTypes:=#[2]},type:=31,pos:=pos,after:=#[],guard:=none} _ _ _ _
 go_simp
 refine(aFR c w.drew).mono ?_;rintro e w1 ⟨rfl,t⟩;have j:Frm (fun _=>False) w w1:=(Frm.drew _ w).trans (Frm.aa t);refine b _ _ (fun _=>h2.ae j id) ?_;clear b K2;refine oE 2 rfl fun K2 b=>?_;refine aK _ _ _ rfl B4 (m.ae j id) (u _ _) (z _ _) (hx.trans r.symm) (by rw[hx];kernel_rfl) B fun I F H=>?_;have g:Frm (fun k=>k=B4) w I:=(j.wide fun _ _ q=>q.elim).trans H;have f:B5≠B4:=n.ab m (by decide);refine b _ _ (fun _=>h2.ae g l) ?_;clear b K2;refine oE 3 rfl fun K2 b=>?_;refine aK (vs:=#[.int .i64 c,.int .i64 0,.string .empty]) _ _ _ rfl B5 (n.ae g f) (y _ _) (A _ _) s.symm (by kernel_rfl) (by simp[Value.oneCell']) fun J G d=>?_;refine b _ _ (fun q=>absurd rfl q) ?_;clear b K2;refine aS (by kernel_rfl) ?_ _;exact h J (F.ae d (Ne.symm f)) G ((g.wide fun _ _ q=>.inl q).trans (d.wide fun _ _ q=>.inr q))
theorem cR(x:Operand)(d:o.op=.load 58 x)(g:Nat)(b:IsC w g cs 58)(hx:a.eval x=.pointer (some ⟨g,0,none⟩))(c:cs.size=7)(h:K (a.put o.dst (.agg cs)) w):o.wp Tryz.prog a w K Q:=by
 unfold Oper.wp;rw[lO _ x d g b hx (by kernel_rfl) (by rw[c];kernel_rfl)];exact h
theorem dC(A:SA)(f:fZ):(aL A f).size=7:=rfl
theorem dS(h:SpV w A f)(ht:∃a n c,A.tv=.slice a n c):(aL A f).all (·.oneCell')=true:=by
 obtain⟨d,g,b⟩:=h.m.len;obtain⟨a,n,c,e⟩:=ht;unfold aL;rw[b,e];simp[Value.oneCell']
theorem Inv.ej(h:Inv f):CtS f:=⟨h.ic,h.bq,fun b d a=>by have:=h.ai a;omega,h.dd⟩
structure OpP(w:World)(r:fZ×An)(e:Ending)(w':World):Prop where
 ex:∃A',e=.returned (.tuple #[.agg (aL A' r.1),bW r.2])/\SpV w' A' r.1/\∃a n c,A'.tv=.slice a n c
 bb:Bl w w'
theorem kJ{ty:TypeId}(b:IsC w g cs ty)(hr:(Tryz.prog.underlying ty).map (·.isRow)=some true)(c:(Tryz.prog.info? ty).map (·.size)=some cs.size):(loadVar ty ⟨g,0,none⟩).run Tryz.prog w=.ok (.agg cs) w:=by
 obtain⟨d,f,a⟩:∃d,Tryz.prog.underlying ty=some d/\d.isRow=true:=by
  cases e:Tryz.prog.underlying ty with
  | none=>rw[e]at hr;cases hr
  | some d=>rw[e]at hr;exact⟨d,rfl,by simpa using hr⟩
 have:=run_loadVar_mid (P:=Tryz.prog) w g 0 ty cs.toList d b.range f a (by simpa using c)
 simpa using this
theorem bE{a:Array Value}{y:Array Value}(d:IsC w B4 x 58)(e:IsC w B5 y 31)(hx:x.size=7)(hy:y.size=3)(b:a.getD 4 undef=.pointer (some ⟨B4,0,none⟩))(c:a.getD 5 undef=.pointer (some ⟨B5,0,none⟩)):
  (results Tryz.f33 a).run Tryz.prog w=.ok (.tuple #[.agg x,.agg y]) w:=by
 have f:=kJ d (by kernel_rfl) (by rw[hx];kernel_rfl);have g:=kJ e (by kernel_rfl) (by rw[hy];kernel_rfl);simp only[Array.getD_eq_getD_getElem?]at b c;simp[results,Tryz.f33,b,c,asAddr,f,g]
theorem OpP.bad(d:SpV w A f)(e:∃a n c,A.tv=.slice a n c)(b:Bl w w')(c:Int):OpP w (f,c,0,.empty) (.returned (.tuple #[.agg (aL A f),.agg #[.int .i64 c,.int .i64 0,.string .empty]])) w':=
 ⟨⟨A,rfl,d.below b,e⟩,b⟩
theorem aFT(kind tree:Int)(key val:ByteArray)(M:inB kind 1 6=false)(w:World)(A:SA)(hS:SpV w A f)(jl:∃a n c,A.tv=.slice a n c):
  Calls Tryz.prog 33 #[.agg (aL A f),.agg #[.int .i64 kind,.int .i64 tree,.string key,.string val]] w (OpP w (opM f kind tree key val)):=by
 have j:=dC A f;have G:=dS hS jl;have I:=aA fun(w':World) (y:Bl w w') (c:Int)=>OpP.bad hS jl y c;obtain⟨x,F⟩:=eZ (aL A f);rw[F]at j G I;rw[F];have LZ:=aA F;clear F;obtain⟨r,S⟩:∃r,Hid (opM f kind tree key val=r):=⟨_,rfl⟩;rw[S.out];obtain⟨w1,X⟩:=eZ (w.alloc (.cells x 58));obtain⟨O,dh⟩:=eZ (w1.alloc (.cells #[.int .i64 kind,.int .i64 tree,.string key,.string val] 33));obtain⟨P,du⟩:=eZ (O.alloc (.cells #[.int .i64 0,.slice none 0 0,.slice none 0 0,.int .i64 0,.int .i64 0,.slice none 0 0,.slice none 0 0] 58));obtain⟨i,Y⟩:=eZ (P.alloc (.cells #[.int .i64 0,.int .i64 0,.string {data:=#[]}] 31));obtain⟨B2,di⟩:=eZ (w.heap.size);obtain⟨B3,fv⟩:=eZ (w1.heap.size);obtain⟨B4,Z⟩:=eZ (O.heap.size);obtain⟨B5,sm⟩:=eZ (P.heap.size);have s:∀(u:World) (o:Obj) (v:World),u.alloc o=v->Bl u v/\v.heap.size=u.heap.size+1:=fun u o v e=>by rw[<-e];exact⟨(bQ _ u).alloc (nR _) _,by simp⟩
 have t:∀(u:World) (cs:Array Value) (N:TypeId) (v:World),u.alloc (.cells cs N)=v->IsC v u.heap.size cs N:=fun u cs N v e=>by rw[<-e];exact IsC.new _ _ _
 obtain⟨T,s1⟩:=s _ _ _ X;obtain⟨U,s2⟩:=s _ _ _ dh;obtain⟨V,s3⟩:=s _ _ _ du;obtain⟨W,s4⟩:=s _ _ _ Y;have C:=t _ _ _ _ X;have D:=t _ _ _ _ dh;have E:=t _ _ _ _ du;have p:=t _ _ _ _ Y;rw[di]at C;rw[fv]at D;rw[Z]at E;rw[sm]at p;have g:Bl P i:=W;have d:Bl O i:=V.trans (g.mono (by omega));have b:Bl w1 i:=U.trans (d.mono (by omega));have l:Bl w i:=T.trans (b.mono (by omega));have z:IsC i B2 x 58:=C.of (b.block _ C.lt);have H:=D.of (d.block _ D.lt);have B:=E.of (g.block _ E.lt);have m:B2≠B4:=by omega
 have k0:i.cell? ⟨B3,0,none⟩=some (.int .i64 kind):=H.c rfl;have HD:=aA (aI s1 (aI s2 (aI s3 (aI s4 (aI di (aI fv (aI Z sm)))))));have AT:Hid (w.heap.size<=B4/\w.heap.size<=B5):=(show _/\_ from by omega);have ru:Hid (∀(Q w':World),Bl w Q->Frm (fun k=>k=B4\/k=B5) Q w'->Bl w w'):=fun Q w' y hF=>y.trans (hF.below y.size fun k e=>by have:=AT.out;rcases e with e | e<;>omega);have R:inB kind 1 6=false->aT f kind tree key val=(0,5):=fun q=>by unfold aT;rw[if_pos q]
 clear s t T U V W C D E g d b s1 s2 s3 s4;go_enter Tryz.func33,Tryz.ntmps33;have HA:Hid (r=(f,5,0,.empty)):=by
  show r=_
  rw[<-S.out];unfold opM;rw[R M];rfl
 rw[HA.out];by_cases q1:kind<1
 ·clear R
  go_wp2
  refine gG (d1:=23) (d2:=24) (c:=5) z j G B rfl p rfl m rfl (fun _ _=>rfl) (fun _ _=>rfl) (fun _ _=>rfl) (fun _ _=>rfl) (by kernel_rfl) (fun _ _ _ _ h=>h) (fun w' J K L=>?_);clear z H B p k0;simp only[Act.put,sB,sZ,sS];go_wp2;refine bodyPost_ret (v:=.tuple #[.agg x,.agg #[.int .i64 5,.int .i64 0,.string .empty]]) (bE J K j rfl rfl rfl) rfl ?_;exact I.out w' (ru.out _ _ l L) 5
 ·have q2:6<kind:=by unfold inB at M;simp at M;omega
  clear R;go_wp2;refine gG (d1:=23) (d2:=24) (c:=5) z j G B rfl p rfl m rfl (fun _ _=>rfl) (fun _ _=>rfl) (fun _ _=>rfl) (fun _ _=>rfl) (by kernel_rfl) (fun _ _ _ _ h=>h) (fun w' J K L=>?_);clear z H B p k0;simp only[Act.put,sB,sZ,sS];go_wp2;refine bodyPost_ret (v:=.tuple #[.agg x,.agg #[.int .i64 5,.int .i64 0,.string .empty]]) (bE J K j rfl rfl rfl) rfl ?_;exact I.out w' (ru.out _ _ l L) 5
