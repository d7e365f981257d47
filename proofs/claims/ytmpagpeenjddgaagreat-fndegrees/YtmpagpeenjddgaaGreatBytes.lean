import Derived.Test.YtmpagpeenjddgaaGreatHq38
set_option maxHeartbeats 9999999
set_option maxRecDepth 99999
set_option linter.all false
namespace Go.Proofs.YtmpagpeenjddgaaGreat
open Go.RowKit
variable{zs:List Int}{v:Value}{w w':World}
structure Bts(w:World)(v:Value)(zs:List Int):Prop where
 small:∀i,0<=zs.getD i 0/\zs.getD i 0<256
 shape:∃a cap,v=.slice a zs.length cap/\(0<zs.length->∃b off,a=some ⟨b,off,none⟩/\∀i,i<zs.length->w.cell? (aD b (off+i))=some (.int .u8 (zs.getD i 0)))
theorem Bts.kept(h:Bts w v zs)(k:∀b o,b<w.heap.size->w'.cell? (aD b o)=w.cell? (aD b o)):Bts w' v zs:=by
 obtain⟨a,c,l,g⟩:=h.shape;refine⟨h.small,a,c,l,fun j=>?_⟩;obtain⟨b,off,f,d⟩:=g j;exact⟨b,off,f,fun i e=>(k b _ (World.block_lt_of_cell? _ _ (d i e))).trans (d i e)⟩
theorem Bts.below(h:Bts w v zs)(k:Bl w w'):Bts w' v zs:=
 h.kept fun b o a=>k.cell (p:=aD b o) a
def cls(i:Nat)(x y:Int):Int:=if i<2 then 1 else if 0<x then 2 else if 0<y then 3 else 4
def rN(zs ys:List Int)(n:Nat):List Int:=(List.range n).map fun i=>cls i (zs.getD i 0) (ys.getD i 0)
theorem aFC(i:Nat)(x y:Int):1<=cls i x y/\cls i x y<=4:=by unfold cls;repeat' split<;>omega
theorem fD(zs ys:List Int)(n:Nat):(rN zs ys n).length=n:=by simp[rN]
theorem aEZ(zs ys:List Int)(n:Nat):rN zs ys (n+1)=rN zs ys n++[cls n (zs.getD n 0) (ys.getD n 0)]:=by simp[rN,List.range_succ]
theorem aHX(zs ys:List Int)(n k:Nat)(h:k<n):(rN zs ys n).getD k 0=cls k (zs.getD k 0) (ys.getD k 0):=by simp[rN,h]
theorem yL(i:Nat)(x y:Int)(w:World)(f:i<=1048576):
  Calls Tryz.prog 23 #[iV i,iV x,iV y] w fun e w'=>e=.returned (iV (cls i x y))/\w=w':=by
 have a:Hid (cls i x y=if i<2 then 1 else if 0<x then 2 else if 0<y then 3 else 4):=rfl;by_cases b:i<2
 ·rw[a.out,if_pos b]
  go_enter Tryz.func23,Tryz.ntmps23
  go_wp2
  go_ret
  exact⟨rfl,rfl⟩
 ·rw[a.out,if_neg b]
  by_cases c:0<x
  ·rw[if_pos c]
   go_enter Tryz.func23,Tryz.ntmps23
   go_wp2
   go_ret
   exact⟨rfl,rfl⟩
  ·rw[if_neg c]
   by_cases d:0<y
   ·rw[if_pos d]
    go_enter Tryz.func23,Tryz.ntmps23
    go_wp2
    go_ret
    exact⟨rfl,rfl⟩
   ·rw[if_neg d]
    go_enter Tryz.func23,Tryz.ntmps23
    go_wp2
    go_ret
    exact⟨rfl,rfl⟩
def rO(zs ys:List Int)(n k:Nat):List Int:=rN zs ys k++List.replicate (n-k) 0
theorem pZ(zs ys:List Int)(n k:Nat)(h:k<=n):(rO zs ys n k).length=n:=by simp[rO,fD];omega
theorem aFA(zs ys:List Int)(n k:Nat)(h:k<n):(rO zs ys n k).set k (cls k (zs.getD k 0) (ys.getD k 0))=rO zs ys n (k+1):=by
 unfold rO;rw[aEZ,List.set_append_right _ _ (by rw[fD];omega),fD,Nat.sub_self,show n-k=(n -(k+1))+1 by omega,List.replicate_succ,List.set_cons_zero];simp
theorem aHY(zs ys:List Int)(n:Nat):rO zs ys n n=rN zs ys n:=by simp[rO]
theorem aFB(zs ys:List Int)(n:Nat):rO zs ys n 0=List.replicate n 0:=by simp[rO,rN]
theorem aBD(n i:Nat):-9223372036854775808<=(List.replicate n (0:Int)).getD i 0/\(List.replicate n (0:Int)).getD i 0<=9223372036854775807:=by
 by_cases h:i<n<;>simp[h]
theorem pH(a K:Option Addr)(c n:Nat)(zs ys:List Int)(w:World)(C:Nts w (.slice a zs.length c) zs)(E:Nts w (.slice K ys.length n) ys)(D:chk [zs,ys]=0):
  Calls Tryz.prog 12 #[.slice a zs.length c,.slice K ys.length n] w fun e w'=>∃u,e=.returned (.tuple #[u,iV 0])/\bE w.heap.size w'.heap.size w' u (rN zs ys zs.length)/\Bl w w':=by
 obtain⟨O,M,Q⟩:=iP D;have hz:=(rM M).1;have hy:=(rM Q).1;have G:Hid (zs.length=ys.length):=O;have o:=C.shape;have t:=E.shape;obtain⟨_,_,F,o⟩:=o;obtain⟨_,_,R,t⟩:=t;simp only[Value.slice.injEq,true_and]at F R;obtain⟨rfl,rfl⟩:=F;obtain⟨rfl,rfl⟩:=R;obtain⟨b,off,rfl,l⟩:=o (by omega);obtain⟨g,d,rfl,s⟩:=t (by omega);have nm:b<w.heap.size:=World.block_lt_of_cell? _ _ (l 0 (by omega));have V:g<w.heap.size:=World.block_lt_of_cell? _ _ (s 0 (by omega));have J:=run_make_row' (P:=Tryz.prog) 29 2 (iV 0) 8 Tryz.underlying29 pI rfl .i64 .i64 zs.length (by omega) (by omega);rw[aAC]at J;have H:Hid (tG zs 0=dA (List.replicate zs.length 0)):=by simp[Hid,tG]
 clear M Q O o t;go_enter Tryz.func12,Tryz.ntmps12;go_wp2_with fail;refine(kL _ [zs,ys] _ (LRd.two C E _ _ rfl) (by simp) (by simp) (wC (by omega) (by omega))).mono ?_;rintro e w1 ⟨rfl,rfl⟩;rw[D];clear D;go_wp2;have A:=bE.made (w.alloc (.cells #[sL b off zs.length c,sL g d ys.length n] 29)) (List.replicate zs.length 0) (aBD _) (w.heap.size+1) (by simp);rw[<-H.out,List.length_replicate]at A;have N:Bl w ((w.alloc (.cells #[sL b off zs.length c,sL g d ys.length n] 29)).alloc (.cells (tG zs 0) 2)):=((bQ _ _).alloc (nR _) _).alloc (by simp) _;go_loopw [21] (fun i wr=>∃k:Nat,k<=zs.length/\i=iV k/\bE (w.heap.size+1) (w.heap.size+1+1) wr (sL (w.heap.size+1) 0 zs.length zs.length) (rO zs ys zs.length k)/\Bl w wr) (fun i _=>zs.length -(intOf i).toNat)
 case atStart=>exact⟨0,Nat.zero_le _,rfl,by rw[aFB];exact A,N⟩
 case round=>
  obtain⟨k,r,rfl,h,q⟩:=hrel;clear J A N H;by_cases m:k<zs.length
  ·have S:k<ys.length:=by rw[<-G.out];exact m
   have hi:(k:Int) <(zs.length:Int):=by omega
   have hi':(k:Int) <(ys.length:Int):=by omega
   have Z:wr.cell? (aD b (off+k))=some (iV (zs.getD k 0)):=(q.cell (p:=aD b (off+k)) nm).trans (l k m);have g2:wr.cell? (aD g (d+k))=some (iV (ys.getD k 0)):=(q.cell (p:=aD g (d+k)) V).trans (s k S);have z:=h.stored k m (cls k (zs.getD k 0) (ys.getD k 0)) (by have:=aFC k (zs.getD k 0) (ys.getD k 0);omega);rw[aFA zs ys zs.length k m,Nat.zero_add]at z;obtain⟨_,_,f,j⟩:=h.shape;simp only[Value.slice.injEq]at f;obtain⟨rfl,U,rfl⟩:=f;clear U;obtain⟨_,_,f,_,_,h3,j⟩:=j (by rw[pZ _ _ _ _ r];omega);simp only[sJ,Addr.mk.injEq,and_true]at f;obtain⟨rfl,rfl⟩:=f;obtain⟨X,Y⟩:=j k (by rw[pZ _ _ _ _ r];omega);rw[Nat.zero_add]at X Y;have mi:b≠w.heap.size+1:=by omega
   have G8:g≠w.heap.size+1:=by omega
   generalize zs.getD k 0=x at *;generalize ys.getD k 0=y at *;generalize (rO zs ys zs.length k).getD k 0=cv at *;have T:Hid (∀v,(wr.setCell (aD (w.heap.size+1) k) v).drew.cell? (aD b (off+k))=some (iV x)/\(wr.setCell (aD (w.heap.size+1) k) v).drew.cell? (aD g (d+k))=some (iV y)):=fun v=>
    ⟨(World.cell?_setCell_other _ _ _ _ (by intro B;simp only[Addr.mk.injEq]at B;omega)).trans Z,(World.cell?_setCell_other _ _ _ _ (by intro B;simp only[Addr.mk.injEq]at B;omega)).trans g2⟩
   have vw:Hid _:=z.1;have pq:Hid _:=z.2;clear l s j h r G z C E;go_wp2_with fail;go_region_held3 (fun w'=>w'.cell? (aD b (off+k))=some (iV x)/\w'.cell? (aD g (d+k))=some (iV y)) (first | exact T.out _ | go_keep | assumption)
    ((go_at_call 23;refine(yL k x y _ (by omega)).mono ?_;rintro e w1 ⟨rfl,rfl⟩))
   go_wp2
   go_roundw
   case rel=>exact⟨k+1,by omega,by go_num,vw.out.below (bQ _ _).drew,(q.trans (pq.out.below (by omega) (by omega))).drew⟩
   case measure=>simp[intOf];omega
  ·have I:k=zs.length:=by omega
   rw[I,aHY]at h;have L:w.heap.size+1+1<=wr.heap.size:=by
    obtain⟨_,_,f,j⟩:=h.shape;simp only[Value.slice.injEq]at f;obtain⟨rfl,_,rfl⟩:=f;obtain⟨_,_,f,_,_,h3,_⟩:=j (by rw[fD];omega);simp only[sJ,Addr.mk.injEq,and_true]at f;obtain⟨rfl,rfl⟩:=f;omega
   have W:=h.wider (lo':=w.heap.size) (hi':=wr.heap.size) (by omega) L;clear l s h r I L;go_wp2;refine bodyPost_ret (v:=.tuple #[sL (w.heap.size+1) 0 zs.length zs.length,iV 0]) (by simp[results,Tryz.results12,go_sem]) rfl ⟨_,rfl,W,q⟩
end Go.Proofs.YtmpagpeenjddgaaGreat
namespace Go.Proofs.YtmpagpeenjddgaaGreat
open Go.RowKit Fo
variable{f:fZ}
theorem aDM(h:Inv f):chk [f.c,f.m]=0:=by
 have r:=h.ic.n8;have q:=h.ic.al;have p:=h.ic.len;have k:∀b,b<2->cu f b=0:=fun b n=>
  (h.ic.bb.dead b).1 (h.ic.two b n)
 have l:chk [f.c]=0:=by
  rw[lX];have d:inB f.c.length 8 512=true:=by simp[inB];omega
  have g:eH f.c=false:=mO 0 fun i o=>by
   have c:=h.counts i;have e:inB (f.c.getD i 0) 0 65535=true:=by
    unfold inB;unfold cu at c;simp only[Bool.and_eq_true,decide_eq_true_eq];omega
   rw[e];rfl
  have j:eQ f.c=false:=by
   have a:=k 0 (by omega);have b:=k 1 (by omega);unfold cu at a b;unfold eQ;rw[a,b];rfl
  simp[d,g,j]
 have m:chk [f.m]=0:=by
  rw[lX];have d:inB f.m.length 8 512=true:=by simp[inB];omega
  have g:eH f.m=false:=mO 0 fun i o=>by
   have c:=h.db i;have e:inB (f.m.getD i 0) 0 65535=true:=by
    unfold inB;unfold co at c;simp only[Bool.and_eq_true,decide_eq_true_eq];omega
   rw[e];rfl
  have j:eQ f.m=false:=by
   have a:=h.dy 0 (by omega);have b:=h.dy 1 (by omega);unfold co at a b;unfold eQ;rw[a,b];rfl
  simp[d,g,j]
 rw[aDN _ _ p.symm];simp[l,m]
theorem rD{zs ys:List Int}:∀x∈plP zs ys,2<=x/\x<zs.length:=fun x a=>by
 obtain⟨b,_,rfl⟩:=List.mem_map.1 a;have:=b.2;omega
def cQ(f:fZ):fZ×An:=
 if 1099511627776<=f.gen then(f,4,0,.empty)else
 if plC f.c f.m≠0 then(f,plC f.c f.m,0,.empty)else
 (dS f (plP f.c f.m),0,(dZ f:Int)+((plP f.c f.m).length:Int),.empty)
structure aDI(f g:fZ):Prop where
 inv:Inv g
 ve:VE g
 c:g.c.length=f.c.length
theorem aJE(h:Inv f)(a:VE f):aDI f (cQ f).1:=by
 unfold cQ;split
 ·exact⟨h,a,rfl⟩
 ·split
  ·exact⟨h,a,rfl⟩
  ·exact⟨h.settle (fun x b=>(rD x b).1) (by omega),aHB a _,rfl⟩
end Go.Proofs.YtmpagpeenjddgaaGreat
namespace Go.Proofs.YtmpagpeenjddgaaGreat
open Go.RowKit Go.Shelf Fo
variable{w:World}{f:fZ}
def cdM(f:fZ):Int:=if 1099511627776<=f.gen then 4 else plC f.c f.m
theorem aLN(h:cdM f≠0):cQ f=(f,cdM f,0,.empty):=by
 unfold cQ;unfold cdM at h |-;split
 ·rfl
 ·rename_i q
  rw[if_neg q]at h;rw[if_pos h]
theorem aIB(h:cdM f=0):cQ f=(dS f (plP f.c f.m),0,(dZ f:Int)+((plP f.c f.m).length:Int),.empty)/\f.gen<1099511627776:=by
 unfold cQ;unfold cdM at h;split
 ·rename_i q
  rw[if_pos q]at h;omega
 ·rename_i q
  rw[if_neg q]at h;rw[if_neg (by simp[h])];exact⟨rfl,by omega⟩
structure PcP(w:World)(f:fZ)(e:Ending)(w':World):Prop where
 ex:∃a0 n0 c0 a1 n1 c1 a2 n2 c2,e=.returned (.tuple #[.agg #[.slice a0 n0 c0,.slice a1 n1 c1,.slice a2 n2 c2],iV (cdM f)])/\(cdM f≠0->n0=0/\n1=0)/\(cdM f=0->n0=dZ f/\n1=(plP f.c f.m).length/\∃lo hi,w.heap.size<=lo/\bE lo hi w' (.slice a1 n1 c1) (plP f.c f.m))
 bk:Bl w w'
theorem PcP.bad{w':World}{c:Int}(hc:cdM f=c)(a:c≠0)(b:Bl w w'):PcP w f (.returned (.tuple #[.agg #[.slice none 0 0,.slice none 0 0,.slice none 0 0],iV c])) w':=
 ⟨⟨none,0,0,none,0,0,none,0,0,by rw[hc],fun _=>⟨rfl,rfl⟩,fun q=>absurd (hc.symm.trans q) a⟩,b⟩
theorem aLJ(W:World):(Instr.build 152 #[]).run Tryz.prog W=.ok (.agg #[.slice none 0 0,.slice none 0 0,.slice none 0 0]) W:=by kernel_rfl
theorem aLK(W:World)(a0 a b:Option Addr)(f g h c d e:Nat):(Instr.build 152 #[(0,.slice a0 f c),(1,.slice a g d),(2,.slice b h e)]).run Tryz.prog W=.ok (.agg #[.slice a0 f c,.slice a g d,.slice b h e]) W:=by kernel_rfl
theorem uX(w:World)(ρ:Nat->Nat)(P:Nat)(A:Adr)(f:fZ)(J:List aS)(h:St w ρ P A f J)(r:Inv f):
  Calls Tryz.prog 110 #[pT P 0] w (PcP w f):=by
 have il:=aLJ;have V:=aLK;have hz:=r.sz;obtain⟨a,fy⟩:=eZ (w.heap.size);obtain⟨w1,W⟩:=eZ (w.alloc (.cells #[.slice none 0 0,.slice none 0 0,.slice none 0 0] 152));have B1:=bAl W;have c:=iNw W fy;have bw:=h.below B1;obtain⟨_,_,_,n,_⟩:=id bw;have g2:w1.cell? (aD P 2)=some (iV f.gen):=by rw[n.hP.cell];rfl
 obtain⟨m3,m4,m5,m7⟩:=n.cells;have qe:∀w:World,IsC w A.c (dA f.c) 2->Nts w (sL A.c 0 f.c.length f.c.length) f.c:=fun w h=>by
  have:=mB (ys:=[]) (by simpa using h:IsC w A.c (dA (f.c++[])) 2) (fun i=>by have:=hz.cb i;unfold cu at this;omega)
  simpa using this
 have Dm:∀w:World,IsC w A.d (jG f.m A.dj) 2->Nts w (sL A.d 0 f.m.length (f.m.length+A.dj.length)) f.m:=fun w h=>xK h (fun i=>by have:=hz.mb i;unfold co at this;omega);have e0:w1.cell? (aD a 0)=some (.slice none 0 0):=c.c rfl;have l:w1.cell? (aD a 1)=some (.slice none 0 0):=c.c rfl;have m:w1.cell? (aD a 2)=some (.slice none 0 0):=c.c rfl;have H:=c.frozen 0;have I:=c.frozen 1;have K:=c.frozen 2;have B:Hid (∀(O Q:World),Bl w O->Frm (fun x=>x=a) O Q->Bl w Q):=fun O Q Z hF=>Z.trans (hF.below Z.size fun g e=>by rw[e];omega);have SL:=aDM r;by_cases hg:1099511627776<=f.gen
 ·have j:Hid (cdM f=4):=by unfold cdM;rw[if_pos hg];rfl
  go_enter Tryz.func110,Tryz.ntmps110
  go_wp2
  refine bodyPost_ret (v:=.tuple #[.agg #[.slice none 0 0,.slice none 0 0,.slice none 0 0],iV 4]) (by simp[results,Tryz.results110,Tryz.f110,go_sem,e0,l,m];try rfl) rfl ?_;exact .bad j.out (by omega) (B.out _ _ B1 (fI _ _ _ _ _))
 ·have j:Hid (cdM f=plC f.c f.m):=by unfold cdM;rw[if_neg hg];rfl
  go_enter Tryz.func110,Tryz.ntmps110
  go_wp2
  go_region_held3 (fun w'=>w'.cell? (aD P 4)=some (sL A.c 0 f.c.length f.c.length)/\w'.cell? (aD P 5)=some (sL A.d 0 f.m.length (f.m.length+A.dj.length))) (first | go_keep | exact⟨m4,m5⟩ | exact⟨(o.cell (p:=aD P 4) n.hP.lt).trans m4,(o.cell (p:=aD P 5) n.hP.lt).trans m5⟩) ((go_at_call 129;refine(wX _ _ _ _ f.c f.m _ (qe _ ?_) (Dm _ ?_) SL).mono ?_;exact n.hc;exact n.hd;rintro e d ⟨u,v,rfl,F,Y,X⟩;have o:Bl w1 d:=(bQ w1.heap.size w1).drew.trans X))
  have B2:=B1.trans (o.mono B1.size);have d1:=c.of (o.block _ c.lt);obtain⟨t,y,rfl⟩:=F.shape;obtain⟨M,N,rfl⟩:=Y.shape;have U:bE w1.heap.size d.heap.size d (.slice t (plP f.c f.m).length y) (plP f.c f.m):=F.own (fun i=>by
   by_cases hi:i <(plP f.c f.m).length
   ·have:=rD (zs:=f.c) (ys:=f.m) ((plP f.c f.m).getD i 0) (by rw[gD,gE hi];exact List.getElem_mem hi)
    have:=r.ic.al
    omega
   ·rw[gD,List.getElem?_eq_none (by omega)];simp)
  have T:=aA U;have HP:Hid (plP f.c f.m=plP f.c f.m):=rfl;obtain⟨pc,R⟩:=eZ (plC f.c f.m);obtain⟨G,s⟩:=eZ ((plP f.c f.m).length);obtain⟨L,ut⟩:=eZ ((plR f.c f.m).length);have Fk:=aA s;rw[R]at j;rw[s]at T;rw[R,s,ut];have ay:=h.below B2;clear F Y U X e0 l m H I K R s ut;by_cases hc:pc=0
  ·subst hc
   go_wp2_with fail
   refine(aIH d ρ P A f J ay r).mono ?_;rintro e z ⟨C,D,rfl,E⟩;have B3:=B2.trans (E.mono B2.size);have k:=d1.of (E.block _ d1.lt);have e0:z.cell? (aD a 0)=some (.slice none 0 0):=k.c rfl;have l:z.cell? (aD a 1)=some (.slice none 0 0):=k.c rfl;have m:z.cell? (aD a 2)=some (.slice none 0 0):=k.c rfl;have H:=k.frozen 0;have I:=k.frozen 1;have K:=k.frozen 2;have PX:=aA (T.out.below E);go_wp2;refine bodyPost_ret (v:=.tuple #[.agg #[.slice C (dZ f) D,.slice t G y,.slice M L N],iV 0]) (by simp[results,Tryz.results110,Tryz.f110,go_sem,e0,l,m];try rfl) rfl ?_;refine⟨⟨C,dZ f,D,t,G,y,M,L,N,by rw[j.out],fun q=>absurd j.out q,fun _=>⟨rfl,Fk.out.symm,w1.heap.size,d.heap.size,B1.size,?_⟩⟩,B.out _ _ B3 (fI _ _ _ _ _)⟩;have S:=fI z a (.slice C (dZ f) D) (.slice t G y) (.slice M L N);exact PX.out.kept S.size (fun b ao be V=>S.block b V (fun e=>by rw[e]at ao;have:=c.lt;omega))
  ·have e0:d.cell? (aD a 0)=some (.slice none 0 0):=d1.c rfl
   have l:d.cell? (aD a 1)=some (.slice none 0 0):=d1.c rfl;have m:d.cell? (aD a 2)=some (.slice none 0 0):=d1.c rfl;have H:=d1.frozen 0;have I:=d1.frozen 1;have K:=d1.frozen 2;go_wp2;refine bodyPost_ret (v:=.tuple #[.agg #[.slice none 0 0,.slice none 0 0,.slice none 0 0],iV pc]) (by simp[results,Tryz.results110,Tryz.f110,go_sem,e0,l,m];try rfl) rfl ?_;exact .bad j.out hc (B.out _ _ B2 (fI _ _ _ _ _))
theorem dJ.e5{base:Nat}{u:Value}{zs:List Int}(h:dJ base w u zs)(n:0<zs.length):∃g dj,u=sL g 0 zs.length (zs.length+dj.length)/\base<=g/\IsC w g (jG zs dj) 2/\zs.length+dj.length<=maxLen:=by
 obtain⟨_,k | ⟨g,b,a,rfl,i,j,l,m,c,d⟩⟩:=h
 ·omega
 ·rw[Nat.mul_one]at c d
  have f:(a.toList.drop zs.length).length=b-zs.length:=by simp[c]
  refine⟨g,a.toList.drop zs.length,by rw[f];congr 1;omega,i,?_,by rw[f];omega⟩;have e:jG zs (a.toList.drop zs.length)=a:=by
   unfold jG;rw[<-d,List.take_append_drop]
  rw[e];exact j
theorem aAN(c p:List Int)(j:Nat)(h:j<p.length):bK c (p.take (j+1))=(bK c (p.take j)).set (p.getD j 0).toNat 1:=by
 rw[List.take_succ_eq_append_getElem h];unfold bK;rw[List.foldl_append];simp[gD,h]
structure SeP(w:World)(ρ:Nat->Nat)(P:Nat)(f:fZ)(p:List Int)(J:List aS)(e:Ending)(w':World):Prop where
 e:e=.returned (.tuple #[])
 ex:∃ρ' A',St w' ρ' P A' (dS f p) J/\∀x,x<w.heap.size->ρ x=0->ρ' x=0
 ae:Frm (fun k=>ρ k≠0) w w'
theorem aGT(w:World)(ρ:Nat->Nat)(P:Nat)(A:Adr)(f:fZ)(J:List aS)(h:St w ρ P A f J)(D:Inv f)(hg:f.gen<1099511627776)(p:List Int)(hp:∀x∈p,2<=x/\x<f.c.length)(tj:p.length<=512)(G H:Value)(c:Option Addr)(j:Nat)(lo hi:Nat)(hO:bE lo hi w (.slice c p.length j) p)(np:∀x,lo<=x->ρ x=0)(h1:G.oneCell'=true/\H.oneCell'=true):
  Calls Tryz.prog 111 #[pT P 0,.agg #[G,.slice c p.length j,H]] w (SeP w ρ P f p J):=by
 have hz:=D.sz;obtain⟨y,I⟩:=eZ (w.heap.size);obtain⟨w1,bx⟩:=eZ (w.alloc (.cells #[G,.slice c p.length j,H] 152));have B1:=bAl bx;have E:=iNw bx I;have bw:=h.below B1;obtain⟨_,_,_,T,_⟩:=id bw;obtain⟨m3,m4,m5,m7⟩:=T.cells;have qe:Nts w1 (sL A.c 0 f.c.length f.c.length) f.c:=by
  have:=mB (ys:=[]) (by simpa using T.hc:IsC w1 A.c (dA (f.c++[])) 2) (fun i=>by have:=hz.cb i;unfold cu at this;omega)
  simpa using this
 have h8:=D.ic.n8;have h5:=D.ic.al;go_enter Tryz.func111,Tryz.ntmps111;go_wp2_with fail;refine(pY _ _ f.c w1 (by omega) (by omega) qe).mono ?_;rintro e w2 ⟨u,rfl,hU,c9⟩;obtain⟨g,dj,rfl,Bm,X,BF⟩:=hU.e5 (by omega);have B2:=B1.trans (c9.mono B1.size);obtain⟨C,r⟩:=h.du (com:=f.c) B2 X (lT B1.size Bm) BF;have Q:=h.below B2;obtain⟨_,_,_,t,_⟩:=id Q;have k2:=E.of (c9.block _ E.lt);have t5:w2.cell? (aD P 5)=some (sL A.d 0 f.m.length (f.m.length+A.dj.length)):=by rw[t.hP.cell];rfl
 have z5:=t.hP.frozen 5;obtain⟨L,di⟩:=eZ (w2.setCell (aD P 5) (sL g 0 f.c.length (f.c.length+dj.length)));rw[di]at C r;have O:ρ P=1:=t.rP;have fy:ρ y=0:=h.bT (Nat.le_of_eq I);have U:IsC L y #[G,.slice c p.length j,H] 152:=by rw[<-di];exact k2.set_ne _ (fun e=>by rw[e,O]at fy;omega)
 have b1:L.cell? (aD y 1)=some (.slice c p.length j):=U.c rfl;have Y:Hid (∀wr:World,Frm (fun x=>x=g) L wr->∀k,k<p.length->∃b off,c=some ⟨b,off,none⟩/\wr.cell? (aD b (off+k))=some (iV (p.getD k 0))):=fun wr hF k hk=>by
  have hq:=hO.kept (w':=wr) (lT r.size hF.size) (fun b ao be Z=>by
   refine(hF.block b (lL Z r.size) (fun e=>?_)).trans (r.block b Z (fun q=>q (np b ao)));have:=B1.size;omega)
  obtain⟨_,_,he,hs⟩:=hq.shape;simp only[Value.slice.injEq,true_and]at he;obtain⟨rfl,rfl⟩:=he;obtain⟨b,off,rfl,_,_,_,hc⟩:=hs (by omega);exact⟨b,off,rfl,(hc k hk).1⟩
 have Qt:=aA hp;have MN:y≠g:=by have:=E.lt;omega
 have XH:=aA U;have Qa:=aA r;have Pb:Hid (∀x,x<w.heap.size->ρ x=0->tV ρ g x=0):=fun x R h0=>by
  unfold tV;rw[if_neg (by have:=B1.size;omega)];exact h0
 clear qe m3 m4 m5 m7 E k2 U hU X hO r hp T bw;go_wp2;go_loopw [17,5] (fun i _ wr=>∃k:Nat,k<=p.length/\i=iV k/\St wr (tV ρ g) P {A with d:=g,dj:=dj} {f with m:=bK f.c (p.take k)} J/\Frm (fun x=>x=g) L wr) (fun i _ _=>p.length -(intOf i).toNat)
 case atStart=>exact⟨0,by omega,rfl,by simpa [bK] using C,Frm.refl _ _⟩
 case round=>
  obtain⟨k,hk,rfl,o,F⟩:=hrel;obtain⟨_,_,_,n,_⟩:=id o;by_cases z:k<p.length
  ·obtain⟨b,off,rfl,x0⟩:=Y.out wr F k z
   have jl:(k:Int) <(p.length:Int):=by omega
   have V:p.getD k 0∈p:=by rw[gD,gE z];exact List.getElem_mem z
   have I:=Qt.out _ V;have K:=aA (aAN f.c p k z);obtain⟨a,W⟩:∃a:Nat,p.getD k 0=(a:Int):=⟨(p.getD k 0).toNat,by omega⟩;rw[W]at x0 I K;simp only[Int.toNat_natCast]at K;have B:(bK f.c (p.take k)).length=f.c.length:=jC _ _;have y5:wr.cell? (aD P 5)=some (sL g 0 f.c.length (f.c.length+dj.length)):=by rw[n.hP.cell];simp[dH,B]
   obtain⟨l,s⟩:=o.c5 (b:=a) 1 (by show a <(bK f.c (p.take k)).length;rw[B];omega);have yb:wr.cell? (aD g a)=some (iV ((bK f.c (p.take k)).getD a 0)):=by
    rw[n.hd.cell];simp[jG,List.getElem?_append,B,show a<f.c.length by omega]
   have zb:wr.frozen? (aD g a)=false:=n.hd.frozen a;have DC:(a:Int) <(f.c.length:Int):=by omega
   have Cw:Hid (St (wr.setCell (aD g a) (iV 1)) (tV ρ g) P {A with d:=g,dj:=dj} {f with m:=bK f.c (p.take (k+1))} J):=by
    rw[K.out];exact l
   have vb:=aA s;generalize (bK f.c (p.take k)).getD a 0=cv at *;clear o n l s V W B K C Q t;go_wp2;go_roundw
   case rel=>exact⟨k+1,by omega,by go_num,Cw.out,F.trans vb.out⟩
   case measure=>simp[intOf];omega
  ·obtain rfl:k=p.length:=by omega
   rw[List.take_of_length_le (nR _)]at o;have b2:wr.cell? (aD y 1)=some (.slice c p.length j):=by
    have:=XH.out.ae F (fun e=>MN e)
    rw[this.cell];rfl
   have y6:wr.cell? (aD P 6)=some A.tv:=by rw[n.hP.cell];rfl
   have z6:=n.hP.frozen 6;obtain⟨l,s⟩:=o.dv (.slice c p.length j) p;obtain⟨M,tu⟩:=eZ (wr.setCell (aD P 6) (.slice c p.length j));rw[tu]at l s;obtain⟨_,_,_,N,_⟩:=id l;have y2:M.cell? (aD P 2)=some (iV f.gen):=by rw[N.hP.cell];rfl
   have z2:=N.hP.frozen 2;obtain⟨lr,CL⟩:=l.c6 (i:=2) (v:=f.gen+1) (f':=dS f p) ⟨rfl,rfl,rfl,rfl⟩ (fun jv=>by simp[dH,dS]);have Pd:=aA lr;have H6:Hid (Frm (fun k=>ρ k≠0) w (M.setCell (aD P 2) (iV (f.gen+1)))):=by
    have F1:Frm (fun k=>ρ k≠0) w wr:=Qa.out.next F (fun x R q=>by have:=B1.size;omega);have F2:Frm (fun k=>ρ k≠0) w M:=F1.next s (fun x R q=>by rw[q,O];omega);exact F2.next (Frm.set (S:=fun x=>x=P) M (p:=aD P 2) rfl _) (fun x R q=>by rw[q,O];omega)
   have Sm:=D.gn;clear o n l s lr CL N C Q t Y;go_wp2;go_end0;exact⟨rfl,⟨_,_,Pd.out,Pb.out⟩,H6.out⟩
theorem xN(a0 c g:Option Addr)(a b k d f i:Nat)(o:a<=512)(h1:b<=512)(w:World):
  Calls Tryz.prog 88 #[.agg #[.slice a0 a d,.slice c b f,.slice g k i]] w fun e w'=>e=.returned (iV ((a:Int)+(b:Int)))/\Bl w w':=by
 obtain⟨l,m⟩:=eZ (w.heap.size);obtain⟨w1,h⟩:=eZ (w.alloc (.cells #[.slice a0 a d,.slice c b f,.slice g k i] 152));have B1:=bAl h;have j:=iNw h m;have e0:w1.cell? (aD l 0)=some (.slice a0 a d):=j.c rfl;have n:w1.cell? (aD l 1)=some (.slice c b f):=j.c rfl;go_enter Tryz.func88,Tryz.ntmps88;go_wp2;go_ret;exact⟨by go_num,B1⟩
structure CoP(w:World)(ρ:Nat->Nat)(P:Nat)(f:fZ)(e:Ending)(w':World):Prop where
 ex:∃a0 n0 c0 a1 n1 c1 a2 n2 c2,e=.returned (.tuple #[.agg #[.slice a0 n0 c0,.slice a1 n1 c1,.slice a2 n2 c2],iV (cQ f).2.1])/\((n0:Int)+(n1:Int))=(cQ f).2.2.1/\n0<=512/\n1<=512
 st:∃ρ' A' J',St w' ρ' P A' (cQ f).1 J'/\∀x,x<w.heap.size->ρ x=0->ρ' x=0
 ae:Frm (fun k=>ρ k≠0) w w'
theorem aFE(w:World)(ρ:Nat->Nat)(P:Nat)(A:Adr)(f:fZ)(J:List aS)(h:St w ρ P A f J)(V:Inv f):
  Calls Tryz.prog 87 #[pT P 0] w (CoP w ρ P f):=by
 obtain⟨a,fy⟩:=eZ (w.heap.size);obtain⟨w1,bx⟩:=eZ (w.alloc (.cells #[.slice none 0 0,.slice none 0 0,.slice none 0 0] 152));have B1:=bAl bx;have G:=iNw bx fy;have bw:=h.below B1;go_enter Tryz.func87,Tryz.ntmps87;go_wp2_with fail;refine(uX w1 ρ P A f J bw V).mono ?_;rintro e w2 ⟨⟨a0,b,l,i,C,n,j,p,o,rfl,Z,T⟩,E⟩;have B2:=B1.trans (E.mono B1.size);obtain⟨t,uj⟩:=eZ (w2.heap.size);obtain⟨d,Q⟩:=eZ (w2.alloc (.cells #[.slice a0 b l,.slice i C n,.slice j p o] 152));have H:=bAl Q;have B3:=B2.trans (H.mono B2.size);have z:=iNw Q uj;have r:IsC d a #[.slice none 0 0,.slice none 0 0,.slice none 0 0] 152:=G.of ((H.block _ (lL G.lt E.size)).trans (E.block _ G.lt));have cx:=h.below B3;have pj:ρ a=0:=h.bT (Nat.le_of_eq fy);have Zr:ρ t=0:=h.bT (by rw[<-uj];exact B2.size);have au:t≠a:=by have:=G.lt;have:=E.size;omega
 have x0:d.cell? (aD t 0)=some (.slice a0 b l):=z.c rfl;have x1:d.cell? (aD t 1)=some (.slice i C n):=z.c rfl;have x2:d.cell? (aD t 2)=some (.slice j p o):=z.c rfl;have xi:Hid (∀(g:fZ) (ρ':Nat->Nat) (A':Adr) (N:List aS) (M w9:World),cQ f=(g,(cQ f).2)->((b:Int)+(C:Int))=(cQ f).2.2.1->b<=512->C<=512->St M ρ' P A' g N->(∀x,x<d.heap.size->ρ x=0->ρ' x=0)->Frm (fun k=>ρ k≠0) d M->Frm (fun x=>x=a) M w9->CoP w ρ P f (.returned (.tuple #[.agg #[.slice a0 b l,.slice i C n,.slice j p o],iV (cQ f).2.1])) w9):=fun g ρ' A' N M w9 hg hv U h1 hS I AN yl=>by
  have Zn:ρ' a=0:=I a (lL G.lt (lT E.size H.size)) pj;have e:(cQ f).1=g:=by rw[hg]
  exact⟨⟨a0,b,l,i,C,n,j,p,o,rfl,hv,U,h1⟩,⟨ρ',A',N,by rw[e];exact hS.ae (yl.wide fun x _ q=>by rw[q];exact Zn),fun x F U=>I x (lL F B3.size) U⟩,((Frm.aa B3).trans AN).next yl fun x F q=>absurd q (by omega)⟩
 by_cases B:cdM f=0
 ·obtain⟨LW,qe,lo,hi,np,hO⟩:=T B
  obtain⟨s,Sm⟩:=aIB B;have D:=aA s;have L:Hid ((cQ f).2.1=0):=by rw[s];rfl
  have O:=tI f.c f.m;subst qe;have sd:=hO.below H;have xn:=aA (aGT d ρ P A f J cx V Sm (plP f.c f.m) (fun x F=>rD x F) O (.slice a0 b l) (.slice j p o) i n lo hi sd (fun x F=>h.bT (by have:=B1.size;omega)) ⟨rfl,rfl⟩);have Gy:b<=512:=by have:=vI f;have:=V.ic.al;omega
  have HV:Hid (((b:Int)+((plP f.c f.m).length:Int))=(cQ f).2.2.1):=by rw[s,LW];rfl
  rw[B];obtain⟨m,W⟩:=eZ ((plP f.c f.m).length);rw[W]at xn HV xi x1 z O Q;rw[W];clear Z T hO sd s W LW;go_wp2_with fail;refine xn.out.mono ?_;rintro e u ⟨rfl,⟨ρ4,A4,av,I⟩,Y⟩;have K:=z.ae Y (fun q=>q Zr);have y:=r.ae Y (fun q=>q pj);have y0:u.cell? (aD t 0)=some (.slice a0 b l):=K.c rfl;have y1:u.cell? (aD t 1)=some (.slice i m n):=K.c rfl;have y2:u.cell? (aD t 2)=some (.slice j p o):=K.c rfl;have e0:u.cell? (aD a 0)=some (.slice none 0 0):=y.c rfl;have R:u.cell? (aD a 1)=some (.slice none 0 0):=y.c rfl;have S:u.cell? (aD a 2)=some (.slice none 0 0):=y.c rfl;have q0:=y.frozen 0;have q1:=y.frozen 1;have q2:=y.frozen 2;clear z K r y x0 x1 x2;go_wp2;refine bodyPost_ret (v:=.tuple #[.agg #[.slice a0 b l,.slice i m n,.slice j p o],iV 0]) (by simp[results,Tryz.results87,Tryz.f87,go_sem,e0,R,S];try rfl) rfl ?_;have:=xi.out _ ρ4 A4 J u _ (by rw[D.out]) HV.out Gy O av I Y (fI u a (.slice a0 b l) (.slice i m n) (.slice j p o));rw[L.out]at this;exact this
 ·obtain⟨rfl,rfl⟩:=Z B
  have s:=aLN B;have D:=aA s;have L:Hid ((cQ f).2.1=cdM f):=by rw[s];rfl
  obtain⟨c,X⟩:=eZ (cdM f);rw[X]at B L D;rw[X];have e0:d.cell? (aD a 0)=some (.slice none 0 0):=r.c rfl;have R:d.cell? (aD a 1)=some (.slice none 0 0):=r.c rfl;have S:d.cell? (aD a 2)=some (.slice none 0 0):=r.c rfl;have q0:=r.frozen 0;have q1:=r.frozen 1;have q2:=r.frozen 2;clear Z T s X z r;go_wp2;refine bodyPost_ret (v:=.tuple #[.agg #[.slice a0 0 l,.slice i 0 n,.slice j p o],iV c]) (by simp[results,Tryz.results87,Tryz.f87,go_sem,e0,R,S];try rfl) rfl ?_;have:=xi.out f ρ A J d _ (by rw[D.out]) (by rw[D.out];rfl) (by omega) (by omega) cx (fun _ _ q=>q) (Frm.refl _ _) (fI d a (.slice a0 0 l) (.slice i 0 n) (.slice j p o));rw[L.out]at this;exact this
theorem buildA01(W:World)(c v:Int):(Instr.build 31 #[(0,iV c),(1,iV v)]).run Tryz.prog W=.ok (.agg #[iV c,iV v,.string .empty]) W:=by kernel_rfl
theorem yX(w:World)(ρ:Nat->Nat)(P:Nat)(A:Adr)(f:fZ)(J:List aS)(h:St w ρ P A f J)(Z:Inv f):
  Calls Tryz.prog 58 #[pT P 0] w (DoP w ρ P (cQ f)):=by
 have il:=buildA01;obtain⟨d,F⟩:=eZ (w.heap.size);obtain⟨w1,B⟩:=eZ (w.alloc (.cells #[iV 0,iV 0,.string {data:=#[]}] 31));have B1:=bAl B;have K:=iNw B F;have U:=h.below B1;have M:ρ d=0:=h.bT (Nat.le_of_eq F);go_enter Tryz.func58,Tryz.ntmps58;go_wp2_with fail;refine(aFE w1 ρ P A f J U Z).mono ?_;rintro e N ⟨⟨a0,b,n,l,c,o,m,t,p,rfl,G,s,Y⟩,⟨ρ2,O,Q,T,I⟩,D⟩;have L:=K.ae D (fun q=>q M);obtain⟨u,uj⟩:=eZ (N.heap.size);obtain⟨i,C⟩:=eZ (N.alloc (.cells #[.slice a0 b n,.slice l c o,.slice m t p] 152));have E:=bAl C;have g:=iNw C uj;have x0:i.cell? (aD u 0)=some (.slice a0 b n):=g.c rfl;have x1:i.cell? (aD u 1)=some (.slice l c o):=g.c rfl;have x2:i.cell? (aD u 2)=some (.slice m t p):=g.c rfl;obtain⟨r,y⟩:=eZ ((cQ f).2.1);have R:Hid (cQ f=((cQ f).1,r,(b:Int)+(c:Int),.empty)):=by
  rw[<-y,G];show cQ f=((cQ f).1,(cQ f).2.1,(cQ f).2.2.1,.empty)
  have:(cQ f).2.2.2=ByteArray.empty:=by unfold cQ;split;rfl;split<;>rfl
  rw[<-this]
 rw[y];clear G y;go_wp2_with fail;refine(xN a0 l m b c t n o p s Y i).mono ?_;rintro e j ⟨rfl,V⟩;have k:=E.trans (V.mono E.size);have a:=L.of (k.block _ L.lt);have e0:j.cell? (aD d 0)=some (iV 0):=a.c rfl;have W:j.cell? (aD d 1)=some (iV 0):=a.c rfl;have X:j.cell? (aD d 2)=some (.string {data:=#[]}):=a.c rfl;have q0:=a.frozen 0;have q1:=a.frozen 1;have q2:=a.frozen 2;clear g x0 x1 x2 a;go_wp2;refine bodyPost_ret (v:=bZ (r,(b:Int)+(c:Int),.empty)) (by simp[bZ,results,Tryz.results58,go_sem,e0,W,X];try rfl) rfl ?_;have z:=fI j d (iV r) (iV ((b:Int)+(c:Int))) (.string .empty);have S:=T.below k;refine⟨by rw[R.out],ρ2,O,Q,S.ae (z.wide fun x _ q=>by rw[q];exact I d K.lt M),?_,fun x H s=>I x (lL H B1.size) s⟩;exact(((Frm.aa B1).trans D).trans (Frm.aa k)).next z fun x H q=>absurd q (by omega)
