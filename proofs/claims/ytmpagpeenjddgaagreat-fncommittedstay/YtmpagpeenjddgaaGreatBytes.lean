import Derived.Test.YtmpagpeenjddgaaGreatHq38
set_option maxHeartbeats 9999999
set_option maxRecDepth 99999
set_option linter.all false
namespace Go.Proofs.YtmpagpeenjddgaaGreat
open Go.RowKit
variable{zs:List Int}{v:Value}{w w':World}
structure Bts(w:World)(v:Value)(zs:List Int):Prop where
 small:∀i,0<=zs.getD i 0/\zs.getD i 0<256
 shape:∃a cap,v=.slice a zs.length cap/\(0<zs.length->∃b off,a=some ⟨b,off,none⟩/\∀i,i<zs.length->w.cell? ⟨b,off+i,none⟩=some (.int .u8 (zs.getD i 0)))
theorem Bts.kept(h:Bts w v zs)(k:∀b o,b<w.heap.size->w'.cell? ⟨b,o,none⟩=w.cell? ⟨b,o,none⟩):Bts w' v zs:=by
 obtain⟨a,c,l,g⟩:=h.shape;refine⟨h.small,a,c,l,fun j=>?_⟩;obtain⟨b,off,f,d⟩:=g j;exact⟨b,off,f,fun i e=>(k b _ (World.block_lt_of_cell? _ _ (d i e))).trans (d i e)⟩
theorem Bts.below(h:Bts w v zs)(k:Bl w w'):Bts w' v zs:=
 h.kept fun b o a=>k.cell (p:=⟨b,o,none⟩) a
end Go.Proofs.YtmpagpeenjddgaaGreat
namespace Go.Proofs.YtmpagpeenjddgaaGreat
open Go.RowKit Fo
variable{f:fZ}
theorem aDL(h:Inv f):chk [f.c,f.m]=0:=by
 have q:=h.ic.n8;have p:=h.ic.al;have o:=h.ic.len;have k:∀b,b<2->cu f b=0:=fun b m=>
  (h.ic.a8.dead b).1 (h.ic.two b m)
 have c1:chk [f.c]=0:=by
  rw[lY];have d:inB f.c.length 8 512=true:=by simp[inB];omega
  have g:eT f.c=false:=pF 0 fun i n=>by
   have c:=h.counts i;have e:inB (f.c.getD i 0) 0 65535=true:=by
    unfold inB;unfold cu at c;simp only[Bool.and_eq_true,decide_eq_true_eq];omega
   rw[e];rfl
  have j:fP f.c=false:=by
   have a:=k 0 (by omega);have b:=k 1 (by omega);unfold cu at a b;unfold fP;rw[a,b];rfl
  simp[d,g,j]
 have l:chk [f.m]=0:=by
  rw[lY];have d:inB f.m.length 8 512=true:=by simp[inB];omega
  have g:eT f.m=false:=pF 0 fun i n=>by
   have c:=h.dd i;have e:inB (f.m.getD i 0) 0 65535=true:=by
    unfold inB;unfold co at c;simp only[Bool.and_eq_true,decide_eq_true_eq];omega
   rw[e];rfl
  have j:fP f.m=false:=by
   have a:=h.eh 0 (by omega);have b:=h.eh 1 (by omega);unfold co at a b;unfold fP;rw[a,b];rfl
  simp[d,g,j]
 rw[aDM _ _ o.symm];simp[c1,l]
theorem rD{zs ys:List Int}:∀x∈plP zs ys,2<=x/\x<zs.length:=fun x a=>by
 obtain⟨b,_,rfl⟩:=List.mem_map.1 a;have:=b.2;omega
def cS(f:fZ):fZ×An:=
 if 1099511627776<=f.gen then(f,4,0,.empty)else
 if plC f.c f.m≠0 then(f,plC f.c f.m,0,.empty)else
 (dR f (plP f.c f.m),0,(dY f:Int)+((plP f.c f.m).length:Int),.empty)
structure aDH(f g:fZ):Prop where
 inv:Inv g
 ve:VE g
 c:g.c.length=f.c.length
theorem aIV(h:Inv f)(a:VE f):aDH f (cS f).1:=by
 unfold cS;split
 ·exact⟨h,a,rfl⟩
 ·split
  ·exact⟨h,a,rfl⟩
  ·exact⟨h.settle (fun x b=>(rD x b).1) (by omega),aGZ a _,rfl⟩
end Go.Proofs.YtmpagpeenjddgaaGreat
namespace Go.Proofs.YtmpagpeenjddgaaGreat
open Go.RowKit Go.Shelf Fo
variable{w:World}{f:fZ}
def cdM(f:fZ):Int:=if 1099511627776<=f.gen then 4 else plC f.c f.m
theorem aLG(h:cdM f≠0):cS f=(f,cdM f,0,.empty):=by
 unfold cS;unfold cdM at h |-;split
 ·rfl
 ·rename_i q
  rw[if_neg q]at h;rw[if_pos h]
theorem aHX(h:cdM f=0):cS f=(dR f (plP f.c f.m),0,(dY f:Int)+((plP f.c f.m).length:Int),.empty)/\f.gen<1099511627776:=by
 unfold cS;unfold cdM at h;split
 ·rename_i q
  rw[if_pos q]at h;omega
 ·rename_i q
  rw[if_neg q]at h;rw[if_neg (by simp[h])];exact⟨rfl,by omega⟩
structure PcP(w:World)(f:fZ)(e:Ending)(w':World):Prop where
 ex:∃a0 n0 c0 a1 n1 c1 a2 n2 c2,e=.returned (.tuple #[.agg #[.slice a0 n0 c0,.slice a1 n1 c1,.slice a2 n2 c2],.int .i64 (cdM f)])/\(cdM f≠0->n0=0/\n1=0)/\(cdM f=0->n0=dY f/\n1=(plP f.c f.m).length/\∃lo hi,w.heap.size<=lo/\bH lo hi w' (.slice a1 n1 c1) (plP f.c f.m))
 bb:Bl w w'
theorem PcP.bad{w':World}{c:Int}(hc:cdM f=c)(a:c≠0)(b:Bl w w'):PcP w f (.returned (.tuple #[.agg #[.slice none 0 0,.slice none 0 0,.slice none 0 0],.int .i64 c])) w':=
 ⟨⟨none,0,0,none,0,0,none,0,0,by rw[hc],fun _=>⟨rfl,rfl⟩,fun q=>absurd (hc.symm.trans q) a⟩,b⟩
theorem aLC(W:World):(Instr.build 152 #[]).run Tryz.prog W=.ok (.agg #[.slice none 0 0,.slice none 0 0,.slice none 0 0]) W:=by kernel_rfl
theorem aLD(W:World)(a0 a b:Option Addr)(d e f c0 c1 c:Nat):(Instr.build 152 #[(0,.slice a0 d c0),(1,.slice a e c1),(2,.slice b f c)]).run Tryz.prog W=.ok (.agg #[.slice a0 d c0,.slice a e c1,.slice b f c]) W:=by kernel_rfl
theorem uV(w:World)(ρ:Nat->Nat)(P:Nat)(A:Adr)(f:fZ)(J:List aR)(h:St w ρ P A f J)(o:Inv f):
  Calls Tryz.prog 110 #[.pointer (some ⟨P,0,none⟩)] w (PcP w f):=by
 have ie:=aLC;have U:=aLD;have hz:=o.sz;obtain⟨a,fx⟩:=eZ (w.heap.size);obtain⟨w1,V⟩:=eZ (w.alloc (.cells #[.slice none 0 0,.slice none 0 0,.slice none 0 0] 152));have B1:=bAl V;have c1:=iNw V fx;have cg:=h.below B1;obtain⟨_,_,_,m,_⟩:=id cg;have g2:w1.cell? ⟨P,2,none⟩=some (.int .i64 f.gen):=by rw[m.hP.cell];rfl
 obtain⟨m3,m4,m5,m7⟩:=m.cells;have pj:∀w:World,IsC w A.c (dI f.c) 2->Nts w (.slice (some ⟨A.c,0,none⟩) f.c.length f.c.length) f.c:=fun w h=>by
  have:=mC (ys:=[]) (by simpa using h:IsC w A.c (dI (f.c++[])) 2) (fun i=>by have:=hz.cb i;unfold cu at this;omega)
  simpa using this
 have DY:∀w:World,IsC w A.d (jJ f.m A.dj) 2->Nts w (.slice (some ⟨A.d,0,none⟩) f.m.length (f.m.length+A.dj.length)) f.m:=fun w h=>xM h (fun i=>by have:=hz.mb i;unfold co at this;omega);have e0:w1.cell? ⟨a,0,none⟩=some (.slice none 0 0):=c1.c rfl;have k:w1.cell? ⟨a,1,none⟩=some (.slice none 0 0):=c1.c rfl;have l:w1.cell? ⟨a,2,none⟩=some (.slice none 0 0):=c1.c rfl;have G:=c1.frozen 0;have H:=c1.frozen 1;have I:=c1.frozen 2;have z:Hid (∀(N O:World),Bl w N->Frm (fun x=>x=a) N O->Bl w O):=fun N O Y hF=>Y.trans (hF.below Y.size fun g e=>by rw[e];omega);have RX:=aDL o;by_cases hg:1099511627776<=f.gen
 ·have d:Hid (cdM f=4):=by unfold cdM;rw[if_pos hg];rfl
  go_enter Tryz.func110,Tryz.ntmps110
  go_wp2
  refine bodyPost_ret (v:=.tuple #[.agg #[.slice none 0 0,.slice none 0 0,.slice none 0 0],.int .i64 4]) (by simp[results,Tryz.results110,Tryz.f110,go_sem,e0,k,l];try rfl) rfl ?_;exact .bad d.out (by omega) (z.out _ _ B1 (fE _ _ _ _ _))
 ·have d:Hid (cdM f=plC f.c f.m):=by unfold cdM;rw[if_neg hg];rfl
  go_enter Tryz.func110,Tryz.ntmps110
  go_wp2
  go_region_held3 (fun w'=>w'.cell? ⟨P,4,none⟩=some (.slice (some ⟨A.c,0,none⟩) f.c.length f.c.length)/\w'.cell? ⟨P,5,none⟩=some (.slice (some ⟨A.d,0,none⟩) f.m.length (f.m.length+A.dj.length))) (first | go_keep | exact⟨m4,m5⟩ | exact⟨(n.cell (p:=⟨P,4,none⟩) m.hP.lt).trans m4,(n.cell (p:=⟨P,5,none⟩) m.hP.lt).trans m5⟩) ((go_at_call 129;refine(xA _ _ _ _ f.c f.m _ (pj _ ?_) (DY _ ?_) RX).mono ?_;exact m.hc;exact m.hd;rintro e c ⟨u,v,rfl,E,X,W⟩;have n:Bl w1 c:=(bQ w1.heap.size w1).drew.trans W))
  have B2:=B1.trans (n.mono B1.size);have d1:=c1.of (n.block _ c1.lt);obtain⟨s,t,rfl⟩:=E.shape;obtain⟨L,M,rfl⟩:=X.shape;have T:bH w1.heap.size c.heap.size c (.slice s (plP f.c f.m).length t) (plP f.c f.m):=E.own (fun i=>by
   by_cases hi:i <(plP f.c f.m).length
   ·have:=rD (zs:=f.c) (ys:=f.m) ((plP f.c f.m).getD i 0) (by rw[gD,gE hi];exact List.getElem_mem hi)
    have:=o.ic.al
    omega
   ·rw[gD,List.getElem?_eq_none (by omega)];simp)
  have S:=aA T;have HP:Hid (plP f.c f.m=plP f.c f.m):=rfl;obtain⟨pc,Q⟩:=eZ (plC f.c f.m);obtain⟨F,r⟩:=eZ ((plP f.c f.m).length);obtain⟨K,uf⟩:=eZ ((plR f.c f.m).length);have FO:=aA r;rw[Q]at d;rw[r]at S;rw[Q,r,uf];have be:=h.below B2;clear E X T W e0 k l G H I Q r uf;by_cases Z:pc=0
  ·subst Z
   go_wp2_with fail
   refine(aIB c ρ P A f J be o).mono ?_;rintro e y ⟨B,C,rfl,D⟩;have B3:=B2.trans (D.mono B2.size);have j:=d1.of (D.block _ d1.lt);have e0:y.cell? ⟨a,0,none⟩=some (.slice none 0 0):=j.c rfl;have k:y.cell? ⟨a,1,none⟩=some (.slice none 0 0):=j.c rfl;have l:y.cell? ⟨a,2,none⟩=some (.slice none 0 0):=j.c rfl;have G:=j.frozen 0;have H:=j.frozen 1;have I:=j.frozen 2;have Ou:=aA (S.out.below D);go_wp2;refine bodyPost_ret (v:=.tuple #[.agg #[.slice B (dY f) C,.slice s F t,.slice L K M],.int .i64 0]) (by simp[results,Tryz.results110,Tryz.f110,go_sem,e0,k,l];try rfl) rfl ?_;refine⟨⟨B,dY f,C,s,F,t,L,K,M,by rw[d.out],fun q=>absurd d.out q,fun _=>⟨rfl,FO.out.symm,w1.heap.size,c.heap.size,B1.size,?_⟩⟩,z.out _ _ B3 (fE _ _ _ _ _)⟩;have R:=fE y a (.slice B (dY f) C) (.slice s F t) (.slice L K M);exact Ou.out.kept R.size (fun b au bh U=>R.block b U (fun e=>by rw[e]at au;have:=c1.lt;omega))
  ·have e0:c.cell? ⟨a,0,none⟩=some (.slice none 0 0):=d1.c rfl
   have k:c.cell? ⟨a,1,none⟩=some (.slice none 0 0):=d1.c rfl;have l:c.cell? ⟨a,2,none⟩=some (.slice none 0 0):=d1.c rfl;have G:=d1.frozen 0;have H:=d1.frozen 1;have I:=d1.frozen 2;go_wp2;refine bodyPost_ret (v:=.tuple #[.agg #[.slice none 0 0,.slice none 0 0,.slice none 0 0],.int .i64 pc]) (by simp[results,Tryz.results110,Tryz.f110,go_sem,e0,k,l];try rfl) rfl ?_;exact .bad d.out Z (z.out _ _ B2 (fE _ _ _ _ _))
theorem dJ.ez{base:Nat}{u:Value}{zs:List Int}(h:dJ base w u zs)(n:0<zs.length):∃g dj,u=.slice (some ⟨g,0,none⟩) zs.length (zs.length+dj.length)/\base<=g/\IsC w g (jJ zs dj) 2/\zs.length+dj.length<=maxLen:=by
 obtain⟨_,k | ⟨g,b,a,rfl,i,j,l,m,c,d⟩⟩:=h
 ·omega
 ·rw[Nat.mul_one]at c d
  have f:(a.toList.drop zs.length).length=b-zs.length:=by simp[c]
  refine⟨g,a.toList.drop zs.length,by rw[f];congr 1;omega,i,?_,by rw[f];omega⟩;have e:jJ zs (a.toList.drop zs.length)=a:=by
   unfold jJ;rw[<-d,List.take_append_drop]
  rw[e];exact j
theorem aAO(c p:List Int)(j:Nat)(h:j<p.length):bG c (p.take (j+1))=(bG c (p.take j)).set (p.getD j 0).toNat 1:=by
 rw[List.take_succ_eq_append_getElem h];unfold bG;rw[List.foldl_append];simp[gD,h]
structure SeP(w:World)(ρ:Nat->Nat)(P:Nat)(f:fZ)(p:List Int)(J:List aR)(e:Ending)(w':World):Prop where
 e:e=.returned (.tuple #[])
 ex:∃ρ' A',St w' ρ' P A' (dR f p) J/\∀x,x<w.heap.size->ρ x=0->ρ' x=0
 ae:Frm (fun k=>ρ k≠0) w w'
theorem aGP(w:World)(ρ:Nat->Nat)(P:Nat)(A:Adr)(f:fZ)(J:List aR)(h:St w ρ P A f J)(C:Inv f)(hg:f.gen<1099511627776)(p:List Int)(hp:∀x∈p,2<=x/\x<f.c.length)(sx:p.length<=512)(G H:Value)(c:Option Addr)(c1:Nat)(lo hi:Nat)(hO:bH lo hi w (.slice c p.length c1) p)(nf:∀x,lo<=x->ρ x=0)(h1:G.oneCell'=true/\H.oneCell'=true):
  Calls Tryz.prog 111 #[.pointer (some ⟨P,0,none⟩),.agg #[G,.slice c p.length c1,H]] w (SeP w ρ P f p J):=by
 have hz:=C.sz;obtain⟨t,I⟩:=eZ (w.heap.size);obtain⟨w1,ci⟩:=eZ (w.alloc (.cells #[G,.slice c p.length c1,H] 152));have B1:=bAl ci;have E:=iNw ci I;have Z:=h.below B1;obtain⟨_,_,_,R,_⟩:=id Z;obtain⟨m3,m4,m5,m7⟩:=R.cells;have pj:Nts w1 (.slice (some ⟨A.c,0,none⟩) f.c.length f.c.length) f.c:=by
  have:=mC (ys:=[]) (by simpa using R.hc:IsC w1 A.c (dI (f.c++[])) 2) (fun i=>by have:=hz.cb i;unfold cu at this;omega)
  simpa using this
 have h8:=C.ic.n8;have h5:=C.ic.al;go_enter Tryz.func111,Tryz.ntmps111;go_wp2_with fail;refine(pX _ _ f.c w1 (by omega) (by omega) pj).mono ?_;rintro e w2 ⟨u,rfl,hU,di⟩;obtain⟨g,dj,rfl,CJ,W,Aj⟩:=hU.ez (by omega);have B2:=B1.trans (di.mono B1.size);obtain⟨B,o⟩:=h.dq (com:=f.c) B2 W (lT B1.size CJ) Aj;have O:=h.below B2;obtain⟨_,_,_,s,_⟩:=id O;have k2:=E.of (di.block _ E.lt);have t5:w2.cell? ⟨P,5,none⟩=some (.slice (some ⟨A.d,0,none⟩) f.m.length (f.m.length+A.dj.length)):=by rw[s.hP.cell];rfl
 have z5:=s.hP.frozen 5;obtain⟨K,du⟩:=eZ (w2.setCell ⟨P,5,none⟩ (.slice (some ⟨g,0,none⟩) f.c.length (f.c.length+dj.length)));rw[du]at B o;have M:ρ P=1:=s.rP;have fx:ρ t=0:=h.bT (Nat.le_of_eq I);have T:IsC K t #[G,.slice c p.length c1,H] 152:=by rw[<-du];exact k2.set_ne _ (fun e=>by rw[e,M]at fx;omega)
 have b1:K.cell? ⟨t,1,none⟩=some (.slice c p.length c1):=T.c rfl;have X:Hid (∀wr:World,Frm (fun x=>x=g) K wr->∀k,k<p.length->∃b off,c=some ⟨b,off,none⟩/\wr.cell? ⟨b,off+k,none⟩=some (.int .i64 (p.getD k 0))):=fun wr hF k hk=>by
  have hq:=hO.kept (w':=wr) (lT o.size hF.size) (fun b au bh Y=>by
   refine(hF.block b (lL Y o.size) (fun e=>?_)).trans (o.block b Y (fun q=>q (nf b au)));have:=B1.size;omega)
  obtain⟨_,_,he,hs⟩:=hq.shape;simp only[Value.slice.injEq,true_and]at he;obtain⟨rfl,rfl⟩:=he;obtain⟨b,off,rfl,_,_,_,hc⟩:=hs (by omega);exact⟨b,off,rfl,(hc k hk).1⟩
 have QE:=aA hp;have Ls:t≠g:=by have:=E.lt;omega
 have V7:=aA T;have Px:=aA o;have Oy:Hid (∀x,x<w.heap.size->ρ x=0->tT ρ g x=0):=fun x Q h0=>by
  unfold tT;rw[if_neg (by have:=B1.size;omega)];exact h0
 clear pj m3 m4 m5 m7 E k2 T hU W hO o hp R Z;go_wp2;go_loopw [17,5] (fun i _ wr=>∃k:Nat,k<=p.length/\i=.int .i64 k/\St wr (tT ρ g) P {A with d:=g,dj:=dj} {f with m:=bG f.c (p.take k)} J/\Frm (fun x=>x=g) K wr) (fun i _ _=>p.length -(intOf i).toNat)
 case atStart=>exact⟨0,by omega,rfl,by simpa [bG] using B,Frm.refl _ _⟩
 case round=>
  obtain⟨k,hk,rfl,n,D⟩:=hrel;obtain⟨_,_,_,l,_⟩:=id n;by_cases y:k<p.length
  ·obtain⟨b,off,rfl,x0⟩:=X.out wr D k y
   have kr:(k:Int) <(p.length:Int):=by omega
   have U:p.getD k 0∈p:=by rw[gD,gE y];exact List.getElem_mem y
   have I:=QE.out _ U;have F:=aA (aAO f.c p k y);obtain⟨a,V⟩:∃a:Nat,p.getD k 0=(a:Int):=⟨(p.getD k 0).toNat,by omega⟩;rw[V]at x0 I F;simp only[Int.toNat_natCast]at F;have z:(bG f.c (p.take k)).length=f.c.length:=jE _ _;have y5:wr.cell? ⟨P,5,none⟩=some (.slice (some ⟨g,0,none⟩) f.c.length (f.c.length+dj.length)):=by rw[l.hP.cell];simp[dG,z]
   obtain⟨j,r⟩:=n.cW (b:=a) 1 (by show a <(bG f.c (p.take k)).length;rw[z];omega);have yb:wr.cell? ⟨g,a,none⟩=some (.int .i64 ((bG f.c (p.take k)).getD a 0)):=by
    rw[l.hd.cell];simp[jJ,List.getElem?_append,z,show a<f.c.length by omega]
   have zb:wr.frozen? ⟨g,a,none⟩=false:=l.hd.frozen a;have Cq:(a:Int) <(f.c.length:Int):=by omega
   have Cc:Hid (St (wr.setCell ⟨g,a,none⟩ (.int .i64 1)) (tT ρ g) P {A with d:=g,dj:=dj} {f with m:=bG f.c (p.take (k+1))} J):=by
    rw[F.out];exact j
   have um:=aA r;generalize (bG f.c (p.take k)).getD a 0=cv at *;clear n l j r U V z F B O s;go_wp2;go_roundw
   case rel=>exact⟨k+1,by omega,by go_num,Cc.out,D.trans um.out⟩
   case measure=>simp[intOf];omega
  ·obtain rfl:k=p.length:=by omega
   rw[List.take_of_length_le (nR _)]at n;have b2:wr.cell? ⟨t,1,none⟩=some (.slice c p.length c1):=by
    have:=V7.out.ae D (fun e=>Ls e)
    rw[this.cell];rfl
   have y6:wr.cell? ⟨P,6,none⟩=some A.tv:=by rw[l.hP.cell];rfl
   have z6:=l.hP.frozen 6;obtain⟨j,r⟩:=n.dr (.slice c p.length c1) p;obtain⟨L,tg⟩:=eZ (wr.setCell ⟨P,6,none⟩ (.slice c p.length c1));rw[tg]at j r;obtain⟨_,_,_,N,_⟩:=id j;have y2:L.cell? ⟨P,2,none⟩=some (.int .i64 f.gen):=by rw[N.hP.cell];rfl
   have z2:=N.hP.frozen 2;obtain⟨lp,Bu⟩:=j.c3 (i:=2) (v:=f.gen+1) (f':=dR f p) ⟨rfl,rfl,rfl,rfl⟩ (fun jv=>by simp[dG,dR]);have MJ:=aA lp;have Hb:Hid (Frm (fun k=>ρ k≠0) w (L.setCell ⟨P,2,none⟩ (.int .i64 (f.gen+1)))):=by
    have F1:Frm (fun k=>ρ k≠0) w wr:=Px.out.next D (fun x Q q=>by have:=B1.size;omega);have F2:Frm (fun k=>ρ k≠0) w L:=F1.next r (fun x Q q=>by rw[q,M];omega);exact F2.next (Frm.set (S:=fun x=>x=P) L (p:=⟨P,2,none⟩) rfl _) (fun x Q q=>by rw[q,M];omega)
   have Rx:=C.gn;clear n l j r lp Bu N B O s X;go_wp2;go_end0;exact⟨rfl,⟨_,_,MJ.out,Oy.out⟩,Hb.out⟩
theorem xP(a0 c d:Option Addr)(a b i c0 c1 f:Nat)(m:a<=512)(h1:b<=512)(w:World):
  Calls Tryz.prog 88 #[.agg #[.slice a0 a c0,.slice c b c1,.slice d i f]] w fun e w'=>e=.returned (.int .i64 ((a:Int)+(b:Int)))/\Bl w w':=by
 obtain⟨j,k⟩:=eZ (w.heap.size);obtain⟨w1,g⟩:=eZ (w.alloc (.cells #[.slice a0 a c0,.slice c b c1,.slice d i f] 152));have B1:=bAl g;have h:=iNw g k;have e0:w1.cell? ⟨j,0,none⟩=some (.slice a0 a c0):=h.c rfl;have l:w1.cell? ⟨j,1,none⟩=some (.slice c b c1):=h.c rfl;go_enter Tryz.func88,Tryz.ntmps88;go_wp2;go_ret;exact⟨by go_num,B1⟩
structure CoP(w:World)(ρ:Nat->Nat)(P:Nat)(f:fZ)(e:Ending)(w':World):Prop where
 ex:∃a0 n0 c0 a1 n1 c1 a2 n2 c2,e=.returned (.tuple #[.agg #[.slice a0 n0 c0,.slice a1 n1 c1,.slice a2 n2 c2],.int .i64 (cS f).2.1])/\((n0:Int)+(n1:Int))=(cS f).2.2.1/\n0<=512/\n1<=512
 st:∃ρ' A' J',St w' ρ' P A' (cS f).1 J'/\∀x,x<w.heap.size->ρ x=0->ρ' x=0
 ae:Frm (fun k=>ρ k≠0) w w'
theorem aFB(w:World)(ρ:Nat->Nat)(P:Nat)(A:Adr)(f:fZ)(J:List aR)(h:St w ρ P A f J)(T:Inv f):
  Calls Tryz.prog 87 #[.pointer (some ⟨P,0,none⟩)] w (CoP w ρ P f):=by
 obtain⟨a,fx⟩:=eZ (w.heap.size);obtain⟨w1,ci⟩:=eZ (w.alloc (.cells #[.slice none 0 0,.slice none 0 0,.slice none 0 0] 152));have B1:=bAl ci;have E:=iNw ci fx;have cg:=h.below B1;go_enter Tryz.func87,Tryz.ntmps87;go_wp2_with fail;refine(uV w1 ρ P A f J cg T).mono ?_;rintro e w2 ⟨⟨a0,b,c0,i,z,c1,j,n,l,rfl,X,R⟩,C⟩;have B2:=B1.trans (C.mono B1.size);obtain⟨r,tz⟩:=eZ (w2.heap.size);obtain⟨d,N⟩:=eZ (w2.alloc (.cells #[.slice a0 b c0,.slice i z c1,.slice j n l] 152));have F:=bAl N;have B3:=B2.trans (F.mono B2.size);have u:=iNw N tz;have o:IsC d a #[.slice none 0 0,.slice none 0 0,.slice none 0 0] 152:=E.of ((F.block _ (lL E.lt C.size)).trans (C.block _ E.lt));have db:=h.below B3;have ow:ρ a=0:=h.bT (Nat.le_of_eq fx);have Yk:ρ r=0:=h.bT (by rw[<-tz];exact B2.size);have aw:r≠a:=by have:=E.lt;have:=C.size;omega
 have x0:d.cell? ⟨r,0,none⟩=some (.slice a0 b c0):=u.c rfl;have x1:d.cell? ⟨r,1,none⟩=some (.slice i z c1):=u.c rfl;have x2:d.cell? ⟨r,2,none⟩=some (.slice j n l):=u.c rfl;have Z:Hid (∀(g:fZ) (ρ':Nat->Nat) (A':Adr) (L:List aR) (K Y:World),cS f=(g,(cS f).2)->((b:Int)+(z:Int))=(cS f).2.2.1->b<=512->z<=512->St K ρ' P A' g L->(∀x,x<d.heap.size->ρ x=0->ρ' x=0)->Frm (fun k=>ρ k≠0) d K->Frm (fun x=>x=a) K Y->CoP w ρ P f (.returned (.tuple #[.agg #[.slice a0 b c0,.slice i z c1,.slice j n l],.int .i64 (cS f).2.1])) Y):=fun g ρ' A' L K Y hg hv S h1 hS G AA xr=>by
  have Yg:ρ' a=0:=G a (lL E.lt (lT C.size F.size)) ow;have e:(cS f).1=g:=by rw[hg]
  exact⟨⟨a0,b,c0,i,z,c1,j,n,l,rfl,hv,S,h1⟩,⟨ρ',A',L,by rw[e];exact hS.ae (xr.wide fun x _ q=>by rw[q];exact Yg),fun x D S=>G x (lL D B3.size) S⟩,((Frm.aa B3).trans AA).next xr fun x D q=>absurd q (by omega)⟩
 by_cases y:cdM f=0
 ·obtain⟨Kv,pj,lo,hi,nf,hO⟩:=R y
  obtain⟨p,Rx⟩:=aHX y;have B:=aA p;have I:Hid ((cS f).2.1=0):=by rw[p];rfl
  have M:=tF f.c f.m;subst pj;have py:=hO.below F;have xd:=aA (aGP d ρ P A f J db T Rx (plP f.c f.m) (fun x D=>rD x D) M (.slice a0 b c0) (.slice j n l) i c1 lo hi py (fun x D=>h.bT (by have:=B1.size;omega)) ⟨rfl,rfl⟩);have Gc:b<=512:=by have:=vH f;have:=T.ic.al;omega
  have HV:Hid (((b:Int)+((plP f.c f.m).length:Int))=(cS f).2.2.1):=by rw[p,Kv];rfl
  rw[y];obtain⟨m,U⟩:=eZ ((plP f.c f.m).length);rw[U]at xd HV Z x1 u M N;rw[U];clear X R hO py p U Kv;go_wp2_with fail;refine xd.out.mono ?_;rintro e s ⟨rfl,⟨ρ4,A4,ax,G⟩,V⟩;have H:=u.ae V (fun q=>q Yk);have t:=o.ae V (fun q=>q ow);have y0:s.cell? ⟨r,0,none⟩=some (.slice a0 b c0):=H.c rfl;have y1:s.cell? ⟨r,1,none⟩=some (.slice i m c1):=H.c rfl;have y2:s.cell? ⟨r,2,none⟩=some (.slice j n l):=H.c rfl;have e0:s.cell? ⟨a,0,none⟩=some (.slice none 0 0):=t.c rfl;have O:s.cell? ⟨a,1,none⟩=some (.slice none 0 0):=t.c rfl;have Q:s.cell? ⟨a,2,none⟩=some (.slice none 0 0):=t.c rfl;have q0:=t.frozen 0;have q1:=t.frozen 1;have q2:=t.frozen 2;clear u H o t x0 x1 x2;go_wp2;refine bodyPost_ret (v:=.tuple #[.agg #[.slice a0 b c0,.slice i m c1,.slice j n l],.int .i64 0]) (by simp[results,Tryz.results87,Tryz.f87,go_sem,e0,O,Q];try rfl) rfl ?_;have:=Z.out _ ρ4 A4 J s _ (by rw[B.out]) HV.out Gc M ax G V (fE s a (.slice a0 b c0) (.slice i m c1) (.slice j n l));rw[I.out]at this;exact this
 ·obtain⟨rfl,rfl⟩:=X y
  have p:=aLG y;have B:=aA p;have I:Hid ((cS f).2.1=cdM f):=by rw[p];rfl
  obtain⟨c,W⟩:=eZ (cdM f);rw[W]at y I B;rw[W];have e0:d.cell? ⟨a,0,none⟩=some (.slice none 0 0):=o.c rfl;have O:d.cell? ⟨a,1,none⟩=some (.slice none 0 0):=o.c rfl;have Q:d.cell? ⟨a,2,none⟩=some (.slice none 0 0):=o.c rfl;have q0:=o.frozen 0;have q1:=o.frozen 1;have q2:=o.frozen 2;clear X R p W u o;go_wp2;refine bodyPost_ret (v:=.tuple #[.agg #[.slice a0 0 c0,.slice i 0 c1,.slice j n l],.int .i64 c]) (by simp[results,Tryz.results87,Tryz.f87,go_sem,e0,O,Q];try rfl) rfl ?_;have:=Z.out f ρ A J d _ (by rw[B.out]) (by rw[B.out];rfl) (by omega) (by omega) db (fun _ _ q=>q) (Frm.refl _ _) (fE d a (.slice a0 0 c0) (.slice i 0 c1) (.slice j n l));rw[I.out]at this;exact this
theorem buildA01(W:World)(c v:Int):(Instr.build 31 #[(0,.int .i64 c),(1,.int .i64 v)]).run Tryz.prog W=.ok (.agg #[.int .i64 c,.int .i64 v,.string .empty]) W:=by kernel_rfl
theorem zA(w:World)(ρ:Nat->Nat)(P:Nat)(A:Adr)(f:fZ)(J:List aR)(h:St w ρ P A f J)(X:Inv f):
  Calls Tryz.prog 58 #[.pointer (some ⟨P,0,none⟩)] w (DoP w ρ P (cS f)):=by
 have ie:=buildA01;obtain⟨d,D⟩:=eZ (w.heap.size);obtain⟨w1,y⟩:=eZ (w.alloc (.cells #[.int .i64 0,.int .i64 0,.string {data:=#[]}] 31));have B1:=bAl y;have H:=iNw y D;have S:=h.below B1;have K:ρ d=0:=h.bT (Nat.le_of_eq D);go_enter Tryz.func58,Tryz.ntmps58;go_wp2_with fail;refine(aFB w1 ρ P A f J S X).mono ?_;rintro e L ⟨⟨a0,b,c0,l,c,c1,m,r,n,rfl,F,p,W⟩,⟨ρ2,M,O,R,E⟩,z⟩;have I:=H.ae z (fun q=>q K);obtain⟨s,Y⟩:=eZ (L.heap.size);obtain⟨i,B⟩:=eZ (L.alloc (.cells #[.slice a0 b c0,.slice l c c1,.slice m r n] 152));have C:=bAl B;have g:=iNw B Y;have Z:i.cell? ⟨s,0,none⟩=some (.slice a0 b c0):=g.c rfl;have x1:i.cell? ⟨s,1,none⟩=some (.slice l c c1):=g.c rfl;have x2:i.cell? ⟨s,2,none⟩=some (.slice m r n):=g.c rfl;obtain⟨o,t⟩:=eZ ((cS f).2.1);have N:Hid (cS f=((cS f).1,o,(b:Int)+(c:Int),.empty)):=by
  rw[<-t,F];show cS f=((cS f).1,(cS f).2.1,(cS f).2.2.1,.empty)
  have:(cS f).2.2.2=ByteArray.empty:=by unfold cS;split;rfl;split<;>rfl
  rw[<-this]
 rw[t];clear F t;go_wp2_with fail;refine(xP a0 l m b c r c0 c1 n p W i).mono ?_;rintro e j ⟨rfl,T⟩;have k:=C.trans (T.mono C.size);have a:=I.of (k.block _ I.lt);have e0:j.cell? ⟨d,0,none⟩=some (.int .i64 0):=a.c rfl;have U:j.cell? ⟨d,1,none⟩=some (.int .i64 0):=a.c rfl;have V:j.cell? ⟨d,2,none⟩=some (.string {data:=#[]}):=a.c rfl;have q0:=a.frozen 0;have q1:=a.frozen 1;have q2:=a.frozen 2;clear g Z x1 x2 a;go_wp2;refine bodyPost_ret (v:=bW (o,(b:Int)+(c:Int),.empty)) (by simp[bW,results,Tryz.results58,go_sem,e0,U,V];try rfl) rfl ?_;have u:=fE j d (.int .i64 o) (.int .i64 ((b:Int)+(c:Int))) (.string .empty);have Q:=R.below k;refine⟨by rw[N.out],ρ2,M,O,Q.ae (u.wide fun x _ q=>by rw[q];exact E d H.lt K),?_,fun x G p=>E x (lL G B1.size) p⟩;exact(((Frm.aa B1).trans z).trans (Frm.aa k)).next u fun x G q=>absurd q (by omega)
