import Derived.Test.YtmpagpeenjddgaaGreatDv0
set_option maxHeartbeats 9999999
set_option maxRecDepth 99999
set_option linter.all false
namespace Go.Proofs.YtmpagpeenjddgaaGreat
open Go.RowKit Fo
variable{a x:Array Value}{B S base k:Nat}{A:SA}{α:Type}{u:Value}{w w':World}{f:fZ}
structure Frs(w:World)(n B2 B3 gc:Nat)(cj:List Int)(tv:Value)(j:Nat)(wr:World):Prop where
 b2:IsC wr B2 #[.int .i64 0,.slice none 0 0,.slice none 0 0,.int .i64 0,.int .i64 0,.slice none 0 0,.slice none 0 0] 58
 c:IsC wr gc (y64.row (List.replicate n 0++cj)) 2
 bb:Bl w wr
 ex:∃ag jk,IsC wr B3 #[.int .i64 n,.slice (adr ag) j (j+jk.length),.slice none 0 0,.int .i64 1,.int .i64 1,.slice (some ⟨gc,0,none⟩) n (n+cj.length),tv] 58/\yN.Rw wr ag (List.replicate j nv0) jk/\∀g,ag=some g->w.heap.size<=g
structure FrP(w:World)(n:Nat)(e:Ending)(w':World):Prop where
 ex:∃A,e=.returned (.agg (aL A (aH n)))/\SpV w' A (aH n)/\∃a k c,A.tv=.slice a k c
 bb:Bl w w'
theorem aFJ(h:IsC w B x 58)(hx:x.size=7)(e:a.getD 2 undef=.pointer (some ⟨B,0,none⟩)):(results Tryz.f31 a).run Tryz.prog w=.ok (.agg x) w:=by
 have l:=kJ h (by kernel_rfl) (by rw[hx];kernel_rfl);simp only[Array.getD_eq_getD_getElem?]at e;simp[results,Tryz.f31,e,asAddr,l]
theorem zS(n:Nat)(h8:8<=n)(h5:n<=512)(w:World):Calls Tryz.prog 31 #[.int .i64 n] w (FrP w n):=by
 obtain⟨B2,di⟩:=eZ (w.heap.size);obtain⟨w1,ci⟩:=eZ (w.alloc (.cells #[.int .i64 0,.slice none 0 0,.slice none 0 0,.int .i64 0,.int .i64 0,.slice none 0 0,.slice none 0 0] 58));have e1:=bAl ci;have c1:=iNw ci di;go_enter Tryz.func31,Tryz.ntmps31;go_wp2_with fail;refine(qC n h5 w1).mono ?_;rintro e w2 ⟨u,rfl,⟨r,h,rfl,m,U⟩,bh⟩;obtain⟨a,rfl⟩:∃g,r=some g:=by
  cases r with
  | none=>have e:=(m.nil rfl).1;have:=congrArg List.length e;rw[List.length_replicate,List.length_nil]at this;omega
  | some g=>exact⟨g,rfl⟩
 have yx:IsC w2 a (y64.row (List.replicate n 0++h)) 2:=m.arr a rfl;have ce:=U a rfl;have mo:=m.small;rw[List.length_replicate]at mo;simp only[adr,Option.map_some,List.length_replicate];obtain⟨q,hq⟩:=eZ (w2.heap.size);obtain⟨w3,du⟩:=eZ (w2.alloc (.cells #[.int .i64 3] 2));obtain⟨B3,fv⟩:=eZ (w3.heap.size);obtain⟨w4,cx⟩:=eZ (w3.alloc (.cells #[.int .i64 n,.slice none 0 0,.slice none 0 0,.int .i64 1,.int .i64 1,.slice (some ⟨a,0,none⟩) n (n+h.length),.slice (some ⟨q,0,none⟩) 1 1] 58));have D:=bAl du;have b34:=bAl cx;have L:=D.trans (b34.mono D.size);have J:=e1.trans (bh.mono e1.size);have b04:=J.trans (L.mono J.size);have i3:=iNw cx fv;have i2:=(c1.of (bh.block _ c1.lt)).of (L.block _ (lL c1.lt bh.size));have ic:=yx.of (L.block _ yx.lt);have n23:B2≠B3:=by have:=c1.lt;have:=bh.size;have:=D.size;omega
 have l3:w.heap.size<=B3:=by have:=J.size;have:=D.size;omega
 have QW:w.heap.size<=B2:=Nat.le_of_eq di;have jm:Hid (Frs w n B2 B3 a h (.slice (some ⟨q,0,none⟩) 1 1) 0 w4):=⟨i2,ic,b04,none,[],i3,⟨fun g e=>(by cases e),fun _=>⟨rfl,rfl⟩,by simp⟩,fun g e=>(by cases e)⟩;have Rt:w.heap.size<=a:=by have:=e1.size;omega
 clear i2 i3 ic c1 yx m U di;go_wp2;go_loopw [4] (fun i wr=>∃j:Nat,j<=n/\i=.int .i64 j/\Frs w n B2 B3 a h (.slice (some ⟨q,0,none⟩) 1 1) j wr) (fun i _=>n -(intOf i).toNat)
 case atStart=>exact⟨0,by omega,rfl,jm.out⟩
 case round=>
  clear jm ci du cx;obtain⟨j,hj,rfl,f⟩:=hrel;obtain⟨r,l,G,m,U⟩:=f.ex;have m1:wr.cell? ⟨B3,1,none⟩=some (.slice (adr r) j (j+l.length)):=G.c rfl;by_cases ak:j<n
  ·have d9:(j:Int) <(n:Int):=by omega
   have aw:∀g,r=some g->g≠B2/\g≠B3/\g≠a:=fun g e=>⟨(m.arr g e).ab f.b2 (by decide),(m.arr g e).ab G (by decide),(m.arr g e).ab f.c (by decide)⟩;have Vm:Hid (∀(E:Option Nat) (c:List NV) (B:World),yN.Rw B E (List.replicate j nv0++[nv0]) c->(∀g,E=some g->r=some g\/wr.heap.size<=g)->Frm (fun k=>r=some k) wr B->(IsC B B3 #[.int .i64 n,.slice (adr r) j (j+l.length),.slice none 0 0,.int .i64 1,.int .i64 1,.slice (some ⟨a,0,none⟩) n (n+h.length),.slice (some ⟨q,0,none⟩) 1 1] 58/\Frs w n B2 B3 a h (.slice (some ⟨q,0,none⟩) 1 1) (j+1) (B.setCell ⟨B3,1,none⟩ (.slice (adr E) (j+1) (j+1+c.length))))):=fun E c B h1 h2 h3=>by
    have H:=G.ae h3 (fun e=>(aw _ e).2.1 rfl);have b7:=f.b2.ae h3 (fun e=>(aw _ e).1 rfl);have c7:=f.c.ae h3 (fun e=>(aw _ e).2.2 rfl);have be7:Bl w B:=f.bb.trans (h3.below f.bb.size fun g e=>U g e);refine⟨H,b7.set_ne _ n23,c7.set_ne _ (c7.ab H (by decide)),be7.trans ((bQ _ B).setCell (p:=⟨B3,1,none⟩) l3 _),E,c,?_,?_,?_⟩
    ·have:=H.set 1 (.slice (adr E) (j+1) (j+1+c.length))
     simpa using this
    ·have e:List.replicate (j+1) nv0=List.replicate j nv0++[nv0]:=by rw[List.replicate_succ']
     rw[e];exact h1.ae (Frm.set (S:=fun k=>k=B3) B (p:=⟨B3,1,none⟩) rfl _) (fun g eg=>(h1.arr g eg).ab H (by decide))
    ·intro g eg
     rcases h2 g eg with q | q
     ·exact U g q
     ·have:=f.bb.size;omega
   have ai:(List.replicate j nv0).length=j:=List.length_replicate;have MI:yN.Rw wr r (List.replicate j nv0) l:=m;have m1':wr.cell? ⟨B3,1,none⟩=some (.slice (adr r) (List.replicate j nv0).length ((List.replicate j nv0).length+l.length)):=by rw[ai];exact m1
   have Ti:=aA ai;clear f G m ai m1;generalize List.replicate j nv0=zs at *;go_wp2_with (first | (at_builtin;refine yN.bS rfl _ _ rfl MI rfl nv0 rfl rfl (by rw[Ti.out];omega) ?_;intro E c B z1 z2 z3;obtain⟨H,Ha⟩:=Vm.out E c B z1 z2 z3;have m7:B.cell? ⟨B3,1,none⟩=some (.slice (adr r) j (j+l.length)):=(H.c rfl);have f7:=H.frozen 1;rw[lP,Ti.out];clear z1 z2 z3 H) | go_in);refine⟨⟨j+1,by omega,by go_num,Ha⟩,?_⟩;simp[intOf];omega
  ·obtain rfl:j=n:=by omega
   obtain⟨g1,rfl⟩:∃g,r=some g:=by
    cases r with
    | none=>have e:=(m.nil rfl).1;have:=congrArg List.length e;rw[List.length_replicate,List.length_nil]at this;omega
    | some g=>exact⟨g,rfl⟩
   have li:=U g1 rfl;have C:jG wr g1 (List.replicate j nv0) l (fun _=>none):=⟨m.arr g1 rfl,fun b d e=>(by cases e),m.small⟩;have uf:(List.replicate j nv0).length=j:=List.length_replicate;have Ms:NdR wr (1,none,0,0) (1,[]):=⟨rfl,.inl ⟨rfl,rfl⟩,by simp⟩;have AB:=C.set2 (q:=2) (by rw[uf];omega) Ms;have n13:g1≠B3:=C.arr.ab G (by decide);have n12:g1≠B2:=C.arr.ab f.b2 (by decide);have n1c:g1≠a:=C.arr.ab f.c (by decide);have V:a≠B3:=f.c.ab G (by decide);have X:=eK wr g1 2 (1,none,0,0);have x4:wr.cell? ⟨g1,4,none⟩=some (.int .i64 0):=by
    have:=yN.at (List.replicate j nv0++l) (i:=2) (j:=0) (by simp;omega) (by decide)
    rw[C.arr.cell];rw[dB,if_pos (by rw[uf];omega)]at this;have e2:(List.replicate j nv0).getD 2 yN.z=nv0:=by rw[gD,List.getElem?_replicate];split<;>rfl
    rw[e2]at this;exact this
   have x5:wr.cell? ⟨g1,5,none⟩=some (.slice none 0 0):=by
    have:=yN.at (List.replicate j nv0++l) (i:=2) (j:=1) (by simp;omega) (by decide)
    rw[C.arr.cell];rw[dB,if_pos (by rw[uf];omega)]at this;have e2:(List.replicate j nv0).getD 2 yN.z=nv0:=by rw[gD,List.getElem?_replicate];split<;>rfl
    rw[e2]at this;exact this
   have f4:=C.arr.frozen 4;have f5:=C.arr.frozen 5;have DK:∃W,(wr.setCell ⟨g1,4,none⟩ (.int .i64 1)).setCell ⟨g1,5,none⟩ (.slice none 0 0)=W:=⟨_,rfl⟩;obtain⟨W1,DK⟩:=DK;have Lx:set2 wr g1 2 (1,none,0,0)=W1:=DK;rw[Lx]at AB X;have T:=G.ae X (fun e=>n13 e.symm);have K:=f.b2.ae X (fun e=>n12 e.symm);have P:=f.c.ae X (fun e=>n1c e.symm);have N:Bl w W1:=f.bb.trans (X.below f.bb.size fun g e=>by rw[e];exact li);obtain⟨gr,bo⟩:=eZ (W1.heap.size);obtain⟨Z,AF⟩:=eZ (W1.alloc (.cells #[.int .i64 0,.int .i64 2] 92));have s:=bAl AF;have ir:=iNw AF bo;have y:=T.of (s.block _ T.lt);have b22:=K.of (s.block _ K.lt);have c02:=P.of (s.block _ P.lt);have ts:=AB.below s;have m2:Z.cell? ⟨B3,2,none⟩=some (.slice none 0 0):=y.c rfl;have z2:=y.frozen 2;have A:=y.set 2 (.slice (some ⟨gr,0,none⟩) 1 1);have I:Frm (fun k=>k=B3) Z (Z.setCell ⟨B3,2,none⟩ (.slice (some ⟨gr,0,none⟩) 1 1)):=Frm.set (S:=fun k=>k=B3) Z (p:=⟨B3,2,none⟩) rfl _;obtain⟨W3,Cm⟩:=eZ (Z.setCell ⟨B3,2,none⟩ (.slice (some ⟨gr,0,none⟩) 1 1));rw[Cm]at A I;have nr3:gr≠B3:=ir.ab y (by decide);have F:=b22.ae I (fun e=>n23 e);have x:=c02.ae I (fun e=>V e);have R:=ir.ae I (fun e=>nr3 e);have so:=ts.ae I (fun g cs hg e=>by subst e;exact hg.ab y (by decide) rfl) (fun e=>n13 e);have TI:(List.replicate j (0:Int)).length=j:=List.length_replicate;have y2:=jN x (i:=2) (by rw[TI];omega);have fz2:=x.frozen 2;have z:=pE x (i:=2) (by rw[TI];omega) 1;have F4:Frm (fun k=>k=a) W3 (W3.setCell ⟨a,2,none⟩ (.int .i64 1)):=Frm.set (S:=fun k=>k=a) W3 (p:=⟨a,2,none⟩) rfl _;obtain⟨W4,M8⟩:=eZ (W3.setCell ⟨a,2,none⟩ (.int .i64 1));rw[M8]at z F4;have y3:=jN z (i:=3) (by simp;omega);have fz3:=z.frozen 3;have Q:=pE z (i:=3) (by simp;omega) 1;have F5:Frm (fun k=>k=a) W4 (W4.setCell ⟨a,3,none⟩ (.int .i64 1)):=Frm.set (S:=fun k=>k=a) W4 (p:=⟨a,3,none⟩) rfl _;obtain⟨W5,AG⟩:=eZ (W4.setCell ⟨a,3,none⟩ (.int .i64 1));rw[AG]at Q F5;have o:=F4.trans F5;have k35:=A.ae o (fun e=>V e.symm);have k34:=A.ae F4 (fun e=>V e.symm);have n2c:B2≠a:=fun e=>f.c.ab f.b2 (by decide) e.symm;have M:=F.ae o (fun e=>n2c e);have nrc:gr≠a:=R.ab x (by decide);have ir5:=R.ae o (fun e=>nrc e);have i8:=so.ae o (fun g cs hg e=>by subst e;exact hg.ab x (by decide) rfl) (fun e=>n1c e);have O:Bl w W5:=by
    have q1:=N.trans (s.mono N.size);have q2:=q1.trans (I.below q1.size fun g e=>by rw[e];exact l3);exact q2.trans (o.below q2.size fun g e=>by rw[e];exact Rt)
   have m53:W3.cell? ⟨B3,5,none⟩=some (.slice (some ⟨a,0,none⟩) j (j+h.length)):=A.c rfl;have m54:W4.cell? ⟨B3,5,none⟩=some (.slice (some ⟨a,0,none⟩) j (j+h.length)):=k34.c rfl;have ee:((List.replicate j nv0).set 2 (1,none,0,0)).length=j:=by simp
   have av:(((List.replicate j (0:Int)).set 2 1).set 3 1).length=j:=by simp
   have hV:SpV W5 {ga:=g1,ns:=(List.replicate j nv0).set 2 (1,none,0,0),nj:=l,gr:=gr,rj:=[],cv:=.slice (some ⟨a,0,none⟩) j (j+h.length),tv:=.slice (some ⟨q,0,none⟩) 1 1} (aH j):=by
    refine⟨⟨i8.arr,fun b d hd=>?_,i8.small⟩,?_,?_,by simp[aH,maxLen],.inr ⟨a,0,j+h.length,((List.replicate j (0:Int)).set 2 1).set 3 1++h,?_,Q,?_,?_⟩⟩
    ·refine i8.nd b d ?_
     rw[<-hd];show upd (fun _=>none) 2 (some (1,[])) b=if b=2 then some (1,[])else none
     rfl
    ·simp[aH]
    ·have:=ir5
     simpa [aH,Ely.row,yT,aU] using this
    ·simp[aH]
    ·simp[aH]
    ·simp[aH]
   have Um:#[Value.int .i64 j,.slice (some ⟨g1,0,none⟩) j (j+l.length),.slice (some ⟨gr,0,none⟩) 1 1,.int .i64 1,.int .i64 1,.slice (some ⟨a,0,none⟩) j (j+h.length),.slice (some ⟨q,0,none⟩) 1 1]=aL {ga:=g1,ns:=(List.replicate j nv0).set 2 (1,none,0,0),nj:=l,gr:=gr,rj:=[],cv:=.slice (some ⟨a,0,none⟩) j (j+h.length),tv:=.slice (some ⟨q,0,none⟩) 1 1} (aH j):=by
    simp[aL,aH]
   have kx:IsC W5 B3 #[Value.int .i64 j,.slice (some ⟨g1,0,none⟩) j (j+l.length),.slice (some ⟨gr,0,none⟩) 1 1,.int .i64 1,.int .i64 1,.slice (some ⟨a,0,none⟩) j (j+h.length),.slice (some ⟨q,0,none⟩) 1 1] 58:=by simpa [adr] using k35
   have yh:Hid (∀wa:World,Frm (fun k=>k=B2) W5 wa->FrP w j (.returned (.agg #[Value.int .i64 j,.slice (some ⟨g1,0,none⟩) j (j+l.length),.slice (some ⟨gr,0,none⟩) 1 1,.int .i64 1,.int .i64 1,.slice (some ⟨a,0,none⟩) j (j+h.length),.slice (some ⟨q,0,none⟩) 1 1])) wa):=fun wa hF=>by
    rw[Um];refine⟨⟨_,rfl,?_,⟨_,_,_,rfl⟩⟩,O.trans (hF.below O.size fun g e=>by rw[e];exact QW)⟩;refine hV.ae hF (fun g cs t ht hg e=>?_);subst e;refine hg.ab M ?_ rfl;rcases ht with e | e | e | e<;>rw[e]<;>decide
   have fh:(#[Value.int .i64 j,.slice (some ⟨g1,0,none⟩) j (j+l.length),.slice (some ⟨gr,0,none⟩) 1 1,.int .i64 1,.int .i64 1,.slice (some ⟨a,0,none⟩) j (j+h.length),.slice (some ⟨q,0,none⟩) 1 1]).all (·.oneCell')=true:=by simp[Value.oneCell']
   have Y:(#[Value.int .i64 j,.slice (some ⟨g1,0,none⟩) j (j+l.length),.slice (some ⟨gr,0,none⟩) 1 1,.int .i64 1,.int .i64 1,.slice (some ⟨a,0,none⟩) j (j+h.length),.slice (some ⟨q,0,none⟩) 1 1]).size=7:=rfl;generalize (#[Value.int .i64 j,.slice (some ⟨g1,0,none⟩) j (j+l.length),.slice (some ⟨gr,0,none⟩) 1 1,.int .i64 1,.int .i64 1,.slice (some ⟨a,0,none⟩) j (j+h.length),.slice (some ⟨q,0,none⟩) 1 1])=XS at kx yh fh Y;have O4:(2:Int) <(j:Int):=by omega
   have ZP:(3:Int) <(j:Int):=by omega
   have r1:wr.cell? ⟨B3,1,none⟩=some (.slice (some ⟨g1,0,none⟩) j (j+l.length)):=m1;have KX:=aA kx;have B25:=aA M;clear Um hV C AB ts so i8 G T y A k34 k35 kx K b22 F M P c02 x z Q ir R ir5 X I F4 F5 o s N O f m U Ms Lx m1 uf TI ee av;generalize (List.replicate j (0:Int)).getD 2 0=v2 at *;generalize ((List.replicate j (0:Int)).set 2 1).getD 3 0=v3 at *;go_upto_region 10 with fail
   refine wp_region_list ?_;refine wpList_plain rfl (fun K2 ae=>?_);refine cR _ rfl B3 KX.out rfl Y ?_;refine ae _ _ ?_;clear ae K2;simp only[Act.put,sB,sZ,sS];refine wpList_plain rfl (fun K2 ae=>?_);refine aK _ _ _ rfl B2 B25.out rfl rfl Y (by rw[Y];kernel_rfl) fh fun wa ja jaF=>?_;refine ae _ _ ?_;clear ae K2;refine wpList_nil ?_;simp only[Act.put,sB,sZ,sS];have Vy:=aA (yh.out wa jaF);clear yh jaF;go_wp2;refine bodyPost_ret (v:=.agg XS) (aFJ ja Y rfl) rfl ?_;exact Vy.out
structure CmP(w:World)(S:Nat)(f:fZ)(e:Ending)(w':World):Prop where
 ex:∃A' a0 n0 c0 a1 n1 c1 rv,e=.returned (.tuple #[.slice a0 n0 c0,.slice a1 n1 c1,rv,.int .i64 (cS f).2.1])/\((n0:Int)+(n1:Int))=(cS f).2.2.1/\n0<=512/\n1<=512/\Sp w' S A' (cS f).1/\∃a k c,A'.tv=.slice a k c
 ae:Frm (fun k=>k=S) w w'
theorem CmP.bad(h:Sp w S A f)(d:∃a k c,A.tv=.slice a k c){c:Int}(hc:cS f=(f,c,0,.empty))(b:Bl w w'):CmP w S f (.returned (.tuple #[.slice none 0 0,.slice none 0 0,.slice none 0 0,.int .i64 c])) w':=
 ⟨⟨A,none,0,0,none,0,0,.slice none 0 0,by rw[hc],by rw[hc];rfl,by omega,by omega,by rw[hc];exact h.below b,d⟩,Frm.aa b⟩
theorem CmP.good{w3:World}(h:Sp w S A f)(n:Inv f){p:List Int}(hc:cS f=(dR f p,0,(dY f:Int)+(p.length:Int),.empty))(d:Bl w w3){gc:Nat}{cj:List Int}(l:IsC w3 gc (y64.row (bG f.c p++cj)) 2)(v:w.heap.size<=gc)(q:p.length<=512)(a0 a:Option Addr)(c0 c1:Nat)(i:Value):
  CmP w S f (.returned (.tuple #[.slice a0 (dY f) c0,.slice a p.length c1,i,.int .i64 0])) (((w3.setCell ⟨S,5,none⟩ (.slice (some ⟨gc,0,none⟩) f.c.length (f.c.length+cj.length))).setCell ⟨S,6,none⟩ (.slice a p.length c1)).setCell ⟨S,4,none⟩ (.int .i64 (f.gen+1))):=by
 have c:gc≠S:=by have:=h.box.lt;omega
 have m:=h.box.of (d.block _ h.box.lt);have r:=m.set 5 (.slice (some ⟨gc,0,none⟩) f.c.length (f.c.length+cj.length));have s:=r.set 6 (.slice a p.length c1);have u:=s.set 4 (.int .i64 (f.gen+1));have F:Frm (fun k=>k=S) w (((w3.setCell ⟨S,5,none⟩ (.slice (some ⟨gc,0,none⟩) f.c.length (f.c.length+cj.length))).setCell ⟨S,6,none⟩ (.slice a p.length c1)).setCell ⟨S,4,none⟩ (.int .i64 (f.gen+1))):=
  (((Frm.aa d).trans (Frm.set (S:=fun k=>k=S) w3 (p:=⟨S,5,none⟩) rfl _)).trans (Frm.set (S:=fun k=>k=S) _ (p:=⟨S,6,none⟩) rfl _)).trans (Frm.set (S:=fun k=>k=S) _ (p:=⟨S,4,none⟩) rfl _)
 have b:=h.v.ae F (fun g cs t ht o e=>by
  subst e;refine o.ab h.box ?_ rfl;rcases ht with e | e | e | e<;>rw[e]<;>decide)
 have j:=((l.set_ne (p:=⟨S,5,none⟩) (.slice (some ⟨gc,0,none⟩) f.c.length (f.c.length+cj.length)) c).set_ne (p:=⟨S,6,none⟩) (.slice a p.length c1) c).set_ne (p:=⟨S,4,none⟩) (.int .i64 (f.gen+1)) c;have y:=vH f;have x:=n.ic.al;refine⟨⟨{A with cv:=.slice (some ⟨gc,0,none⟩) f.c.length (f.c.length+cj.length),tv:=.slice a p.length c1},a0,dY f,c0,a,p.length,c1,i,by rw[hc],by rw[hc],by omega,q,?_,⟨_,_,_,rfl⟩⟩,F⟩;rw[hc];refine⟨?_,b.aq,b.ln,b.bo,b.rs,.inr ⟨gc,0,f.c.length+cj.length,bG f.c p++cj,?_,j,?_,?_⟩⟩
 ·simpa [aL,dR] using u
 ·show Value.slice _ _ _=_
  have e:(dR f p).m.length=f.c.length:=jE _ _;rw[e];simp
 ·show 0+(bG f.c p).length<=_
  simp
 ·show((bG f.c p++cj).drop 0).take (bG f.c p).length=_
  simp[dR]
theorem xU(c p:List Int)(j:Nat)(h:j<p.length):bG c (p.take (j+1))=(bG c (p.take j)).set (p.getD j 0).toNat 1:=by
 rw[cH p j 0 h];unfold bG;rw[List.foldl_append];rfl
theorem aFE(h:0<cu f k)(h2:co f k=0):(dD f (k+1)).map (fun x:Nat=>(x:Int))=(dD f k).map (fun x:Nat=>(x:Int))++[(k:Int)]:=by
 show(dD f k++if 0<cu f k/\co f k=0 then [k]else []).map _=_
 rw[if_pos ⟨h,h2⟩,List.map_append];rfl
theorem aIA(h:¬(0<cu f k/\co f k=0)):(dD f (k+1)).map (fun x:Nat=>(x:Int))=(dD f k).map (fun x:Nat=>(x:Int)):=by
 show(dD f k++if 0<cu f k/\co f k=0 then [k]else []).map _=_
 rw[if_neg h,List.append_nil]
theorem xE(m:Inv f)(w:World)(S:Nat)(A:SA)(h:Sp w S A f)(jl:∃a k c,A.tv=.slice a k c):
  Calls Tryz.prog 32 #[.pointer (some ⟨S,0,none⟩)] w (CmP w S f):=by
 have h8:=m.ic.n8;have h5:=m.ic.al;have Ng:=m.gn;have Ue:=h.box.lt;obtain⟨s0,_,_,_,s4,_,_⟩:=h.cells;have i5:=aA fun(w':World) (c:Int) (X:cS f=(f,c,0,.empty)) (C:Bl w w')=>CmP.bad h jl X C;by_cases hg:1099511627776<=f.gen
 ·have K:Hid (cS f=(f,4,0,.empty)):=by unfold cS;rw[if_pos hg];rfl
  go_enter Tryz.func32,Tryz.ntmps32
  go_wp2
  refine bodyPost_ret (v:=.tuple #[.slice none 0 0,.slice none 0 0,.slice none 0 0,.int .i64 4]) (by simp[results,Tryz.results32,go_sem]) rfl ?_;exact i5.out _ _ K.out (bQ _ _)
 ·go_enter Tryz.func32,Tryz.ntmps32
  go_wp2_with fail
  refine(fW m.ic (fun x=>by have:=m.counts x;omega) (fun b d hd=>by have:=m.ai hd;omega) w S A h (by have:=m.bq;omega)).mono ?_;rintro r w1 ⟨u,rfl,⟨ag,U,rfl,P,lq⟩,N⟩;obtain⟨t,rfl⟩:∃g,ag=some g:=by
   cases ag with
   | none=>have e:=(P.nil rfl).1;rw[e]at h8;simp at h8
   | some g=>exact⟨g,rfl⟩
  have yx:IsC w1 t (y64.row (f.c++U)) 2:=P.arr t rfl;have ce:=lq t rfl;have mo:=P.small;have Q:=h.below N;obtain⟨_,_,_,_,_,s5,_⟩:=Q.cells;obtain⟨V,om,cm,T,Aj,_,yv⟩:=nH Q.v.m (by rw[m.ic.len];omega);have pj:Nts w1 (.slice (some ⟨t,0,none⟩) f.c.length (f.c.length+U.length)) f.c:=Ely.Sl.c7 P.sl (fun i=>by have:=m.counts i;have e:f.c.getD i 0=cu f i:=rfl;rw[e];omega);have DY:Nts w1 (.slice (some ⟨V,om,none⟩) f.m.length cm) f.m:=by
   rw[<-T];exact Ely.Sl.c7 Q.v.m (fun i=>by have:=m.dd i;have e:f.m.getD i 0=co f i:=rfl;rw[e];omega)
  rw[T]at s5;have Xz:V<w.heap.size:=by
   rcases h.v.m with⟨e,_⟩ | ⟨g,o,cap,xs,e,k,_⟩
   ·rw[T]at e;cases e
   ·rw[T]at e;cases e;exact k.lt
  simp only[adr,Option.map_some];have HL:Hid (f.m.length=f.c.length):=m.ic.len;have HZ:=aA yx;have Xy:=yx.lt;have s41:w1.cell? ⟨S,4,none⟩=some (.int .i64 f.gen):=Q.cells.2.2.2.2.1;clear T P lq yx Q;go_wp2_with fail;refine(aCA _ _ _ _ f.c f.m w1 pj DY (aDL m)).mono ?_;rintro e n ⟨a0,c0,a1,c1,l0,u0,l1,u1,rfl,q1,q2,q3,q4,_,W,_,G⟩;have H:=N.trans (G.mono N.size);have sx:=tF f.c f.m;have Ty:=aA (rD (zs:=f.c) (ys:=f.m));have J:Hid (cS f=if 1099511627776<=f.gen then(f,4,0,.empty)else if plC f.c f.m≠0 then(f,plC f.c f.m,0,.empty)else(dR f (plP f.c f.m),0,(dY f:Int)+((plP f.c f.m).length:Int),.empty)):=(rfl:cS f=_);obtain⟨pc,I⟩:=eZ (plC f.c f.m);obtain⟨p,Y⟩:=eZ (plP f.c f.m);obtain⟨rs,IV⟩:=eZ (plR f.c f.m);rw[I,Y]at J;rw[Y]at Ty sx W;rw[I,Y,IV];clear I Y IV pj DY;by_cases X:pc=0
  ·subst X
   have K:Hid (cS f=(dR f p,0,(dY f:Int)+(p.length:Int),.empty)):=by
    have:=J.out;rw[if_neg (by omega),if_neg (by simp)]at this;exact this
   have AP:IsC n t (y64.row (f.c++U)) 2:=HZ.out.of (G.block _ HZ.out.lt);have QP:=aA AP;have Nf:=AP.lt;have UT:=aA W;have be:∀(w':World),Bl n w'->Sp w' S A f:=fun w' C=>h.below (H.trans (C.mono H.size));have pq:=aA be;have s02:n.cell? ⟨S,0,none⟩=some (.int .i64 f.c.length):=(be n (bQ _ _)).cells.1;have vg:=aA fun(w':World) (k:Nat) (C:Bl n w') (hk:k<f.c.length)=>yv w' k ((C.block V (lL Aj G.size)).trans (G.block V Aj)) (by rw[HL.out];exact hk);have Cc:=aA fun(w':World) (C:Bl n w')=>(C.cell (p:=⟨S,5,none⟩) (lL Ue H.size)).trans ((G.cell (p:=⟨S,5,none⟩) (lL Ue N.size)).trans s5);clear be AP W yv J;go_wp2;go_loopw [10,11] (fun d i wr=>∃k:Nat,k<=f.c.length/\i=.int .i64 k/\y64.Own n.heap.size wr d ((dD f k).map fun x:Nat=>(x:Int))/\Bl n wr) (fun _ i _=>f.c.length -(intOf i).toNat)
   case atStart=>exact⟨0,by omega,rfl,Ely.Own.lit _ n (nR _) _ rfl,(bQ _ n).alloc (nR _) _⟩
   case round=>
    obtain⟨k,uw,rfl,B,l⟩:=hrel;have db:=pq.out wr l;have t0:=db.cells.1;have t5:=Cc.out wr l;by_cases z:k<f.c.length
    ·have x0:=jN (QP.out.of (l.block _ Nf)) z
     have x1:=vg.out wr k l z;have kr:(k:Int) <(f.c.length:Int):=by omega
     have E0:(k:Int) <(f.m.length:Int):=by rw[HL.out];omega
     have Ay:=l.size;have sb:((dD f k).map fun x:Nat=>(x:Int)).length<1000000:=by have:=kY f k;simp;omega
     have M:=aA (aFE (f:=f) (k:=k));have F:=aA (aIA (f:=f) (k:=k));unfold cu co at M F;generalize f.c.getD k 0=x at *;generalize f.m.getD k 0=y at *;clear db pq;by_cases hx:0<x
     ·by_cases hy:y=0
      ·have L:=aA (M.out hx hy)
       clear M F;go_wp2_with (first | (at_builtin;refine y64.av rfl _ _ rfl B rfl (k:Int) rfl rfl sb Ay ?_;intro v' w3 bd bx k3) | go_in);rw[<-L.out]at bd;go_roundw
       case rel=>exact⟨k+1,by omega,by go_num,bd,l.trans bx⟩
       case measure=>simp[intOf];omega
      ·have L:=aA (F.out (fun q=>hy q.2))
       clear M F;rw[<-L.out]at B;go_wp2;go_roundw
       case rel=>exact⟨k+1,by omega,by go_num,B,l⟩
       case measure=>simp[intOf];omega
     ·have L:=aA (F.out (fun q=>hx q.1))
      clear M F;rw[<-L.out]at B;go_wp2;go_roundw
      case rel=>exact⟨k+1,by omega,by go_num,B,l⟩
      case measure=>simp[intOf];omega
    ·obtain⟨w5,rfl⟩:∃w5,w5=wr:=⟨wr,rfl⟩
     obtain rfl:k=f.c.length:=by omega
     obtain⟨da,dc,Uw⟩:=B.sl.len;have Ln:((dD f f.c.length).map fun x:Nat=>(x:Int)).length=dY f:=by simp[dY]
     rw[Ln]at Uw;subst Uw;have ww:=QP.out.of (l.block _ Nf);have To:=aA (UT.out.below l);have Ay:=l.size;have lr:=H.trans (l.mono H.size);clear B db pq vg Cc t5 UT Ln;go_wp2;go_loopw [12] (fun i E=>∃j:Nat,j<=p.length/\i=.int .i64 j/\IsC E t (y64.row (bG f.c (p.take j)++U)) 2/\Frm (fun k=>k=t) w5 E) (fun i _=>p.length -(intOf i).toNat)
     case atStart=>exact⟨0,by omega,rfl,by simpa [bG] using ww,Frm.refl _ _⟩
     case round=>
      obtain⟨j,hj,rfl,D,R⟩:=hrel;obtain⟨E,rfl⟩:∃E,E=wr:=⟨wr,rfl⟩;by_cases z:j<p.length
      ·have UU:=To.out.kept (w':=E) R.size (fun b N G l=>R.block b l (fun e=>by subst e;omega))
       obtain⟨_,_,he,hs⟩:=UU.shape;simp only[Value.slice.injEq,true_and]at he;obtain⟨rfl,rfl⟩:=he;obtain⟨pb,po,rfl,_,_,_,I⟩:=hs (by omega);have x0:=(I j z).1;have CR:p.getD j 0∈p:=by rw[gD,gE z];exact List.getElem_mem z
       have tz:=Ty.out _ CR;have Z:=aA (xU f.c p j z);obtain⟨s,Ff⟩:∃s:Nat,p.getD j 0=(s:Int):=⟨(p.getD j 0).toNat,by omega⟩;rw[Ff]at x0 tz Z;simp only[Int.toNat_natCast]at Z;have av:(bG f.c (p.take j)).length=f.c.length:=jE _ _;have sv:s<f.c.length:=by omega
       have yb:=jN D (i:=s) (by rw[av];exact sv);have zb:=D.frozen s;have D9:=aA (pE D (i:=s) (by rw[av];exact sv) 1);rw[<-Z.out]at D9;have Cq:(s:Int) <(f.c.length:Int):=by omega
       have d9:(j:Int) <(p.length:Int):=by omega
       generalize (bG f.c (p.take j)).getD s 0=cv at *;clear UU hs I CR Ff av Z ww D;go_wp2;go_roundw
       case rel=>exact⟨j+1,by omega,by go_num,D9.out,R.trans (Frm.set (S:=fun k=>k=t) _ (p:=⟨t,s,none⟩) rfl _)⟩
       case measure=>simp[intOf];omega
      ·obtain rfl:j=p.length:=by omega
       rw[List.take_of_length_le (nR _)]at D;have su:Bl w E:=lr.trans (R.below lr.size fun g e=>by rw[e];exact ce);have O:=h.below su;obtain⟨_,_,_,_,v4,v5,v6⟩:=O.cells;have z4:=O.box.frozen 4;have z5:=O.box.frozen 5;have z6:=O.box.frozen 6;have HG:=aA (CmP.good h m K.out su D ce sx da a0 dc c0 (.slice a1 rs.length c1));have Rx:=m.gn;clear D O R ww To HZ QP h su;go_wp2;refine bodyPost_ret (v:=.tuple #[.slice da (dY f) dc,.slice a0 p.length c0,.slice a1 rs.length c1,.int .i64 0]) (by simp[results,Tryz.results32,go_sem]) rfl ?_;exact HG.out
  ·have K:Hid (cS f=(f,pc,0,.empty)):=by
    have:=J.out;rw[if_neg (by omega),if_pos X]at this;exact this
   clear W J;go_wp2;refine bodyPost_ret (v:=.tuple #[.slice none 0 0,.slice none 0 0,.slice none 0 0,.int .i64 pc]) (by simp[results,Tryz.results32,go_sem]) rfl ?_;exact i5.out _ _ K.out H
def yM(o:TO):List Value:=[.int .i64 o.1,.int .i64 o.2.1,.string o.2.2.1,.string o.2.2.2]
def yO:Ely TO where
 cell:=yM
 n:=4
 z:=(0,0,.empty,.empty)
 zv:=.agg #[.int .i64 0,.int .i64 0,.string .empty,.string .empty]
 t:=33
 s:=23
 by':=48
 hn:=fun _=>rfl
 hp:=by omega
 one:=fun a v hv=>by simp only[yM,List.mem_cons,List.not_mem_nil,or_false]at hv;rcases hv with rfl | rfl | rfl | rfl<;>rfl
 hz:=by kernel_rfl
 us:=Tryz.underlying23
 hb:=by omega
 info:=pK (by kernel_rfl)
def aDJ(a:An):List Value:=[.int .i64 a.1,.int .i64 a.2.1,.string a.2.2]
def yA:Ely An where
 cell:=aDJ
 n:=3
 z:=(0,0,.empty)
 zv:=.agg #[.int .i64 0,.int .i64 0,.string .empty]
 t:=31
 s:=26
 by':=32
 hn:=fun _=>rfl
 hp:=by omega
 one:=fun a v hv=>by simp only[aDJ,List.mem_cons,List.not_mem_nil,or_false]at hv;rcases hv with rfl | rfl | rfl<;>rfl
 hz:=by kernel_rfl
 us:=Tryz.underlying26
 hb:=by omega
 info:=pK (by kernel_rfl)
theorem Ely.make(Y:Ely α)(n:Nat)(hn:n<=1048576)(w:World):(Instr.makeSlice Y.s (.int .i64 (n:Int)) (.int .i64 (n:Int))).run Tryz.prog w=.ok (.slice (some ⟨w.heap.size,0,none⟩) n n) (w.alloc (.cells (Y.row (List.replicate n Y.z)) Y.t)):=by
 obtain⟨i,f,g,j,h⟩:=Y.info;have k:=Y.hb;have d:(i.bytes:Int)*(n:Int)<=281474976710656:=by
  have a:i.bytes*n<=64*1048576:=Nat.mul_le_mul (by omega) hn;have b:((i.bytes*n:Nat):Int)<=((64*1048576:Nat):Int):=by omega
  rw[Int.natCast_mul]at b;omega
 have c:=run_make (P:=Tryz.prog) w Y.s Y.t i _ Y.us f h .i64 .i64 n n (by omega) (Int.le_refl _) d (by omega);simp only[Int.toNat_natCast,g]at c;have e:madeCells Y.zv.cells (n*Y.n)=Y.row (List.replicate n Y.z):=by
  have a:=Y.c6 n;have b:Y.zv.cells.size=Y.n:=by rw[Y.hz];simp[Y.hn]
  unfold Builtin.zeroCells at a;rw[b]at a;unfold madeCells;rw[b];exact a
 rw[e]at c;exact c
theorem Ely.setAt(Y:Ely α){g:Nat}{l:List α}(h:IsC w g (Y.row l) Y.t){i:Nat}(c:i<l.length)(a:α):IsC (w.setCells g (i*Y.n) (Y.cell a)) g (Y.row (l.set i a)) Y.t:=by
 have d:i*Y.n+(Y.cell a).length<=(l.flatMap Y.cell).length:=by
  rw[Y.hn,Y.len];have:(i+1)*Y.n<=l.length*Y.n:=Nat.mul_le_mul_right _ c;rw[Nat.succ_mul]at this;exact this
 have:=IsC.a7 (Y.cell a) (i*Y.n) h d
 have e:Go.Proofs.YtmpagpeenjddgaaGreat.spl (l.flatMap Y.cell) (i*Y.n) (Y.cell a)=(l.set i a).flatMap Y.cell:=by
  have b:=Y.spl l [a] i;simp only[List.flatMap_cons,List.flatMap_nil,List.append_nil]at b;rw[b];congr 1;unfold Go.Proofs.YtmpagpeenjddgaaGreat.spl;rw[List.set_eq_take_append_cons_drop,if_pos c];simp
 rw[e]at this;exact this
theorem aER{l:List TO}(h:yO.Sl w u l)(m:0<l.length):∃g o c,u=.slice (some ⟨g,o,none⟩) l.length c/\g<w.heap.size/\∀(w':World) (i:Nat),(w'.heap[g]?=w.heap[g]?)->i<l.length->w'.cell? ⟨g,o+i*4,none⟩=some (.int .i64 (l.getD i yO.z).1)/\w'.cell? ⟨g,o+i*4+1,none⟩=some (.int .i64 (l.getD i yO.z).2.1)/\w'.cell? ⟨g,o+i*4+2,none⟩=some (.string (l.getD i yO.z).2.2.1)/\w'.cell? ⟨g,o+i*4+3,none⟩=some (.string (l.getD i yO.z).2.2.2):=by
 obtain⟨g,o,c,e,j,a⟩:=h.at m;refine⟨g,o,c,e,j,fun w' i f b=>?_⟩;have d:∀k,w'.cell? ⟨g,k,none⟩=w.cell? ⟨g,k,none⟩:=fun k=>by simp[World.cell?,f]
 refine⟨?_,?_,?_,?_⟩
 ·rw[d];exact a i 0 b (by decide)
 ·rw[d];exact a i 1 b (by decide)
 ·rw[d];exact a i 2 b (by decide)
 ·rw[d];exact a i 3 b (by decide)
def z7:Array Value:=#[.int .i64 0,.slice none 0 0,.slice none 0 0,.int .i64 0,.int .i64 0,.slice none 0 0,.slice none 0 0]
theorem aND(W:World):(Instr.build 58 #[]).run Tryz.prog W=.ok (.agg z7) W:=by kernel_rfl
theorem buildA01'(W:World)(c v:Int):(Instr.build 31 #[(0,.int .i64 c),(1,.int .i64 v)]).run Tryz.prog W=.ok (.agg #[.int .i64 c,.int .i64 v,.string .empty]) W:=by kernel_rfl
theorem pR{v5 v6:Value}(h:IsC w B x 58)(hx:x.size=7)(e:a.getD 4 undef=.pointer (some ⟨B,0,none⟩))(b:a.getD 5 undef=v5)(c:a.getD 6 undef=v6):(results Tryz.f18 a).run Tryz.prog w=.ok (.tuple #[.agg x,v5,v6]) w:=by
 have l:=kJ h (by kernel_rfl) (by rw[hx];kernel_rfl);simp only[Array.getD_eq_getD_getElem?]at e b c;simp[results,Tryz.f18,e,b,c,asAddr,l]
theorem Ely.Own.dn{Y:Ely α}{S:Nat->Prop}{l:List α}(h:Y.Own base w u l)(k:Frm S w w')(i:∀g,base<=g->g<w.heap.size->¬S g):Y.Own base w' u l:=by
 obtain⟨a,b,e,f,d⟩:=h;exact⟨a,b,e,f.ae k (fun g c=>i g (d g c) (f.arr g c).lt),d⟩
structure RuP(w:World)(n:Int)(ops:List TO)(e:Ending)(w':World):Prop where
 dev:inB n 8 512=false->e=.returned (.tuple #[.agg z7,.slice none 0 0,.int .i64 1])
 lim:inB n 8 512=true->2000<ops.length->e=.returned (.tuple #[.agg z7,.slice none 0 0,.int .i64 4])
 ok:inB n 8 512=true->ops.length<=2000->∃A u,e=.returned (.tuple #[.agg (aL A (gZ (aH n.toNat) ops)),u,.int .i64 0])/\SpV w' A (gZ (aH n.toNat) ops)/\(∃a k c,A.tv=.slice a k c)/\yA.Own w.heap.size w' u (fF (aH n.toNat) ops)
 bb:Bl w w'
structure RuI(w:World)(f0:fZ)(ops:List TO)(B4 B7 base k:Nat)(u:Value)(wr:World):Prop where
 b4:IsC wr B4 z7 58
 sp:∃A,Sp wr B7 A (gZ f0 (ops.take k))/\∃a k c,A.tv=.slice a k c
 own:yA.Own base wr u (fF f0 (ops.take k))
 bb:Bl w wr
 sz:base<=wr.heap.size
theorem RuI.next{W5 w7:World}{f0 g:fZ}{ops:List TO}{B4 B7:Nat}(b:IsC W5 B4 z7 58)(f:Sp W5 B7 A g)(d:gZ f0 (ops.take k)=g)(r:∃a k c,A.tv=.slice a k c)(i:Bl w W5)(j:base<=W5.heap.size)(p:yA.Own base w7 u (fF f0 (ops.take k)))(hF:Frm (fun k=>base<=k/\∃cs,IsC W5 k cs yA.t) W5 w7)(s:w.heap.size<=base):RuI w f0 ops B4 B7 base k u w7:=by
 have h:∀{g cs t},IsC W5 g cs t->t≠31->¬(base<=g/\∃cs,IsC W5 g cs yA.t):=fun {g cs t} m n o=>by
  obtain⟨l,b⟩:=o.2;exact m.ab b n rfl
 refine⟨b.ae hF (h b (by decide)),⟨A,?_,r⟩,p,i.trans (hF.below i.size fun g q=>by omega),lT j hF.size⟩;rw[d];exact⟨f.box.ae hF (h f.box (by decide)),f.v.ae hF (fun g cs t ht d=>h d (by rcases ht with e | e | e | e<;>rw[e]<;>decide))⟩
theorem vR(n:Int)(a:List TO)(v:Value)(w:World)(hv:yO.Sl w v a)(hl:a.length<=1048576):Calls Tryz.prog 18 #[.int .i64 n,v] w (RuP w n a):=by
 have Ds:=aND;have ZU:=buildA01';have V:z7.size=7:=rfl;have If:z7.all (·.oneCell')=true:=by simp[z7,Value.oneCell']
 obtain⟨va,vc,CW⟩:=hv.len;obtain⟨B4,d5⟩:=eZ (w.heap.size);obtain⟨w1,ci⟩:=eZ (w.alloc (.cells #[.int .i64 0,.slice none 0 0,.slice none 0 0,.int .i64 0,.int .i64 0,.slice none 0 0,.slice none 0 0] 58));have M:=bAl ci;have c1:=iNw ci d5;have HV:=aA (aI hv CW);subst CW;clear hv;go_enter Tryz.func18,Tryz.ntmps18;go_wp2_with fail;refine(iU n w1).mono ?_;rintro e w1' ⟨rfl,rfl⟩;cases Q:inB n 8 512 with
 | false=>
  have rx:=aA Q;clear Q;go_upto_region 2 with fail
  refine wp_region_list ?_;refine wpList_plain rfl (fun K2 b=>?_);go_simp;refine b _ _ ?_;clear b K2;try simp only[Act.put,sB,sZ,sS]
  refine wpList_plain rfl (fun K2 b=>?_);refine aK _ _ _ rfl B4 c1 rfl rfl V (by kernel_rfl) If fun f ja s=>?_;refine b _ _ ?_;clear b K2;have HF:Hid (RuP w n a (.returned (.tuple #[.agg z7,.slice none 0 0,.int .i64 1])) f):=⟨fun _=>rfl,fun q=>(by rw[rx.out]at q;cases q),fun q=>(by rw[rx.out]at q;cases q),M.trans (s.below M.size fun g q=>by rw[q];omega)⟩;clear s;try simp only[Act.put,sB,sZ,sS]
  refine wpList_plain rfl (fun K2 b=>?_);go_simp;refine b _ _ ?_;clear b K2;refine wpList_plain rfl (fun K2 b=>?_);go_simp;refine b _ _ ?_;clear b K2;refine wpList_nil ?_;go_wp2;refine bodyPost_ret (v:=.tuple #[.agg z7,.slice none 0 0,.int .i64 1]) (pR ja V rfl rfl rfl) rfl ?_;exact HF.out
 | true=>
  have rx:=aA Q;by_cases h2:2000<a.length
  ·have O4:(2000:Int) <(a.length:Int):=by omega
   clear Q;go_upto_region 4 with fail
   refine wp_region_list ?_;refine wpList_plain rfl (fun K2 b=>?_);go_simp;refine b _ _ ?_;clear b K2;try simp only[Act.put,sB,sZ,sS]
   refine wpList_plain rfl (fun K2 b=>?_);refine aK _ _ _ rfl B4 c1 rfl rfl V (by kernel_rfl) If fun f ja s=>?_;refine b _ _ ?_;clear b K2;have HF:Hid (RuP w n a (.returned (.tuple #[.agg z7,.slice none 0 0,.int .i64 4])) f):=⟨fun q=>(by rw[rx.out]at q;cases q),fun _ _=>rfl,fun _ q=>absurd q (by omega),M.trans (s.below M.size fun g q=>by rw[q];omega)⟩;clear s;try simp only[Act.put,sB,sZ,sS]
   refine wpList_plain rfl (fun K2 b=>?_);go_simp;refine b _ _ ?_;clear b K2;refine wpList_plain rfl (fun K2 b=>?_);go_simp;refine b _ _ ?_;clear b K2;refine wpList_nil ?_;go_wp2;refine bodyPost_ret (v:=.tuple #[.agg z7,.slice none 0 0,.int .i64 4]) (pR ja V rfl rfl rfl) rfl ?_;exact HF.out
  ·have O4:¬(2000:Int) <(a.length:Int):=by omega
   have Au:8<=n/\n<=512:=by unfold inB at Q;simpa using Q
   obtain⟨N,hN⟩:∃N:Nat,n=(N:Int):=⟨n.toNat,by omega⟩;have QB:Hid (n.toNat=N):=(show n.toNat=N by omega);subst hN;clear Q;have JN:=Inv.fresh (n:=N) (by omega) (by omega);have Jh:=pD N;go_upto_region 5 with fail
   refine wp_region_list ?_;refine wpList_plain rfl (fun K2 b=>?_);go_simp;refine b _ _ ?_;clear b K2;refine wpList_plain rfl (fun K2 b=>?_);go_simp;refine(zS N (by omega) (by omega) w1).mono ?_;rintro e w2 ⟨⟨A0,rfl,Jf,OR⟩,bh⟩;refine b _ _ ?_;clear b K2;have E4:=dS Jf OR;have Dc:=dC A0 (aH N);obtain⟨X0,PK⟩:=eZ (aL A0 (aH N));rw[PK]at E4 Dc;rw[PK];obtain⟨w3,du⟩:=eZ (w2.alloc (.cells #[.int .i64 0,.slice none 0 0,.slice none 0 0,.int .i64 0,.int .i64 0,.slice none 0 0,.slice none 0 0] 58));obtain⟨d,EF⟩:=eZ (w2.heap.size);have i7:=iNw du EF;have bu:=bAl du;refine wpList_plain rfl (fun K2 b=>?_);go_simp;refine b _ _ ?_;clear b K2;refine wpList_plain rfl (fun K2 b=>?_);refine aK _ _ _ rfl d i7 rfl rfl (Dc.trans V.symm) (by rw[Dc];kernel_rfl) E4 fun w4 j7 jF=>?_;have Jt:Bl w2 w4:=bu.trans (jF.below bu.size fun k e=>by omega);have vm:=bh.trans (Jt.mono bh.size);have su:=M.trans (vm.mono M.size);have i4:IsC w4 B4 z7 58:=c1.of (vm.block _ c1.lt);have DJ:Sp w4 d A0 (aH N):=⟨by rw[PK];exact j7,Jf.below Jt⟩;have QY:w.heap.size<=d/\B4<d:=by have:=M.size;have:=bh.size;have:=c1.lt;omega
   refine b _ _ ?_;clear b K2 j7 jF i7 du ci bu Jt c1 PK E4 Dc;refine wpList_nil ?_;try simp only[Act.put,sB,sZ,sS]
   obtain⟨base,Hz⟩:=eZ (w4.heap.size);obtain⟨w5,tg⟩:=eZ (w4.alloc (.cells #[] 31));have C:=bAl tg;have jm:Hid (RuI w (aH N) a B4 d base 0 (.slice (some ⟨base,0,none⟩) 0 0) w5):=⟨i4.of (C.block _ i4.lt),⟨A0,DJ.below C,OR⟩,by rw[<-tg];exact Ely.Own.lit (Y:=yA) base w4 (Nat.le_of_eq Hz.symm) base Hz.symm,su.trans (C.mono su.size),by have:=C.size;omega⟩;have lu:w.heap.size<=base/\d<base:=by have:=su.size;have:=DJ.box.lt;omega
   clear DJ i4 Jf C vm bh;go_wp2;go_loopw [8,9] (fun u i wr=>∃k:Nat,k<=a.length/\i=.int .i64 k/\RuI w (aH N) a B4 d base k u wr) (fun _ i _=>a.length -(intOf i).toNat)
   case atStart=>exact⟨0,by omega,rfl,jm.out⟩
   case round=>
    clear jm tg;obtain⟨k,hk,rfl,m⟩:=hrel;obtain⟨A,j8,jl⟩:=m.sp;by_cases ak:k<a.length
    ·obtain⟨g,o,cc,CW,BR,af⟩:=aER HV.out.1 (by omega)
     simp only[Value.slice.injEq,true_and]at CW;obtain⟨rfl,rfl⟩:=CW;have kr:(k:Int) <(a.length:Int):=by omega
     have xo:=lC JN Jh (a.take k);obtain⟨s1,s2⟩:=lQ (aH N) (a.take k) (a.getD k yO.z);rw[<-cH a k yO.z ak]at s1 s2;have Hw:(fF (aH N) (a.take k)).length<1000000:=by rw[gS,List.length_take];omega
     have J:=aA s1;have G:=aA s2;obtain⟨⟨kind,tree,key,val⟩,Gn⟩:∃x,a.getD k yO.z=x:=⟨_,rfl⟩;rw[Gn]at J G;have vg:Hid (∀U:World,Bl w U->U.cell? ⟨g,o+k*4,none⟩=some (.int .i64 kind)/\U.cell? ⟨g,o+k*4+1,none⟩=some (.int .i64 tree)/\U.cell? ⟨g,o+k*4+2,none⟩=some (.string key)/\U.cell? ⟨g,o+k*4+3,none⟩=some (.string val)):=fun U hb=>by
      have:=af U k (hb.block g BR) ak
      rw[Gn]at this;exact this
     obtain⟨c,Bi⟩:=eZ (wr.heap.size);obtain⟨f,L1⟩:=eZ (wr.alloc (.cells #[.int .i64 0,.int .i64 0,.string {data:=#[]}] 31));have xj:=bAl L1;have ia:=iNw L1 Bi;have T4:=m.b4.of (xj.block _ m.b4.lt);have M3:=j8.below xj;have US:=m.own;have yr:Bl w f:=m.bb.trans (xj.mono m.bb.size);have UB:base<=c:=by have:=m.sz;omega
     obtain⟨x0,x1,x2,x3⟩:=vg.out f yr;have J9:base<=f.heap.size:=lT m.sz xj.size;have MB:=aA T4;have T:=aA M3;have BZ:=aA US;have DC:=xo.inv;have M6:=xo.ve;obtain⟨F,hF⟩:=eZ (gZ (aH N) (a.take k));rw[hF]at J G DC M6 T;have B:=aA T.out.box;clear af xo s1 s2 m j8 T4 M3 US hF Gn;obtain⟨lA,Nq⟩:=eZ (fF (aH N) (a.take k));rw[Nq]at G BZ Hw;clear Nq;by_cases h5:kind=5
     ·subst h5
      have HD:Hid (doM F 5 tree key val=cS F):=by unfold doM;rw[if_pos rfl];rfl
      rw[HD.out]at J G;go_wp2_with fail;refine(xE DC f d A T.out jl).mono ?_;rintro e l ⟨⟨A',a0,R,c0,a1,S,c1,rv,rfl,FJ,Kv,pj,Ja,Gz⟩,L⟩;have As:c≠d:=by omega
      have E:=ia.ae L (fun e=>As e);have T5:=MB.out.ae L (fun e=>by omega);have yt:Bl w l:=yr.trans (L.below yr.size fun g e=>by rw[e];exact QY.1);have Xe:base<=l.heap.size:=lT J9 L.size;have y0:l.cell? ⟨c,0,none⟩=some (.int .i64 0):=E.c rfl;have y1:l.cell? ⟨c,1,none⟩=some (.int .i64 0):=E.c rfl;have y2:l.cell? ⟨c,2,none⟩=some (.string {data:=#[]}):=E.c rfl;have q0:=E.frozen 0;have q1:=E.frozen 1;have q2:=E.frozen 2;obtain⟨p,ur⟩:=eZ ((cS F).2.1);have Ii:Hid ((cS F).2=(p,(R:Int)+(S:Int),{data:=#[]})):=by
       rw[<-ur,FJ];show(cS F).2=((cS F).2.1,(cS F).2.2.1,{data:=#[]})
       have:(cS F).2.2.2=({data:=#[]}:ByteArray):=by unfold cS;split;rfl;split<;>rfl
       rw[<-this]
      rw[ur];have r:=fE l c (.int .i64 p) (.int .i64 ((R:Int)+(S:Int))) (.string {data:=#[]});obtain⟨j,AG⟩:=eZ (((l.setCell ⟨c,0,none⟩ (.int .i64 p)).setCell ⟨c,1,none⟩ (.int .i64 ((R:Int)+(S:Int)))).setCell ⟨c,2,none⟩ (.string {data:=#[]}));have y:=((E.set 0 (.int .i64 p)).set 1 (.int .i64 ((R:Int)+(S:Int)))).set 2 (.string {data:=#[]});rw[AG]at r y;have u0:j.cell? ⟨c,0,none⟩=some (.int .i64 p):=y.c rfl;have u1:j.cell? ⟨c,1,none⟩=some (.int .i64 ((R:Int)+(S:Int))):=y.c rfl;have u2:j.cell? ⟨c,2,none⟩=some (.string {data:=#[]}):=y.c rfl;have MS:=T5.ae r (fun e=>by omega);have EY:Sp j d A' (cS F).1:=⟨Ja.box.ae r (fun e=>As e.symm),Ja.v.ae r (fun g cs t ht hg e=>by
       subst e;refine hg.ab E ?_ rfl;rcases ht with e | e | e | e<;>rw[e]<;>decide)⟩
      have F5:Frm (fun k=>k=d\/k=c) wr j:=((Frm.aa xj).trans (L.wide fun _ _ q=>.inl q)).trans (r.wide fun _ _ q=>.inr q);have ER:=BZ.out.dn F5 (fun g li ws e=>by omega);have C:Bl w j:=yt.trans (r.below yt.size fun g e=>by rw[e];omega);have Ek:base<=j.heap.size:=lT J9 (lT L.size r.size);have z:=aA (aI MS (aI EY (aI Gz C)));have FP:Hid (gZ (aH N) (a.take (k+1))=(cS F).1):=J.out;have Ba:Hid (fF (aH N) (a.take (k+1))=lA++[(p,(R:Int)+(S:Int),{data:=#[]})]):=by have:=G.out;rw[Ii.out]at this;exact this
      clear MS EY F5 r y T5 Ja E L J G Ii HD MB T B FJ;go_wp2_with (first | (at_builtin;refine yA.av rfl _ _ rfl ER rfl (p,(R:Int)+(S:Int),{data:=#[]}) rfl rfl Hw Ek ?_;intro v' w7 bd bx k5;have qy:=aA (RuI.next z.out.1 z.out.2.1 FP.out z.out.2.2.1 z.out.2.2.2 Ek (by rw[Ba.out];exact bd) k5 lu.1);clear bd bx k5 ER) | go_in);go_roundw
      case rel=>exact⟨k+1,by omega,by go_num,qy.out⟩
      case measure=>simp[intOf];omega
     ·have HD:Hid (doM F kind tree key val=opM F kind tree key val):=by unfold doM;rw[if_neg h5];rfl
      rw[HD.out]at J G;have fh:=dS T.out.v jl;have H:=dC A F;have Ir:=aA fun(K:World) (hz:Bl f K)=>aJB DC M6 kind tree key val h5 K A (T.out.v.below hz) jl;obtain⟨Z,wi⟩:=eZ (aL A F);rw[wi]at fh H Ir B;have am:IsC f.drew d Z 58/\f.drew.cell? ⟨g,o+k*4,none⟩=some (.int .i64 kind)/\f.drew.cell? ⟨g,o+k*4+1,none⟩=some (.int .i64 tree)/\f.drew.cell? ⟨g,o+k*4+2,none⟩=some (.string key)/\f.drew.cell? ⟨g,o+k*4+3,none⟩=some (.string val):=⟨B.out.drew,x0,x1,x2,x3⟩;go_upto_region 14 with fail
      refine qK (fun W=>IsC W d Z 58/\W.cell? ⟨g,o+k*4,none⟩=some (.int .i64 kind)/\W.cell? ⟨g,o+k*4+1,none⟩=some (.int .i64 tree)/\W.cell? ⟨g,o+k*4+2,none⟩=some (.string key)/\W.cell? ⟨g,o+k*4+3,none⟩=some (.string val)) 7 (by kernel_rfl) ?_;refine eH (i:=0) 52 (.agg Z) (by kernel_rfl) (by kernel_rfl) rfl (by kernel_rfl) (by kernel_rfl) (by kernel_rfl) (fun _ _ _ h=>h) rfl rfl am (fun w' D=>lO _ _ rfl d D.1 rfl (by kernel_rfl) (by rw[H];kernel_rfl)) ?_;simp only[Act.put,sB,sZ,sS];refine eH (i:=1) 53 (.slice (some ⟨g,o,none⟩) a.length vc) (by kernel_rfl) (by kernel_rfl) rfl (by kernel_rfl) (by kernel_rfl) (by kernel_rfl) (fun _ _ _ h=>h) rfl rfl am (fun w' D=>by obtain⟨_,m1,m2,m3,m4⟩:=D;go_simp;try rfl) ?_;simp only[Act.put,sB,sZ,sS];refine eH (i:=2) 54 (.int .i64 k) (by kernel_rfl) (by kernel_rfl) rfl (by kernel_rfl) (by kernel_rfl) (by kernel_rfl) (fun _ _ _ h=>h) rfl rfl am (fun w' D=>by obtain⟨_,m1,m2,m3,m4⟩:=D;go_simp;try rfl) ?_;simp only[Act.put,sB,sZ,sS];refine eH (i:=3) 55 (.pointer (some ⟨g,o+k*4,none⟩)) (by kernel_rfl) (by kernel_rfl) rfl (by kernel_rfl) (by kernel_rfl) (by kernel_rfl) (fun _ _ _ h=>h) rfl rfl am (fun w' D=>by obtain⟨_,m1,m2,m3,m4⟩:=D;go_simp;try rfl) ?_;simp only[Act.put,sB,sZ,sS];refine eH (i:=4) 56 (.agg #[.int .i64 kind,.int .i64 tree,.string key,.string val]) (by kernel_rfl) (by kernel_rfl) rfl (by kernel_rfl) (by kernel_rfl) (by kernel_rfl) (fun _ _ _ h=>h) rfl rfl am (fun w' D=>by obtain⟨_,m1,m2,m3,m4⟩:=D;go_simp;try rfl) ?_;simp only[Act.put,sB,sZ,sS];refine gF (i:=5) (by kernel_rfl) rfl rfl (fun K2 b=>?_);go_simp;refine(Ir.out f.drew (bQ _ _).drew).mono ?_;rintro e l ⟨⟨A',rfl,JY,Gz⟩,Ff⟩;have I:Bl f l:=(bQ f.heap.size f).drew.trans Ff;have yt:=yr.trans (I.mono yr.size);have GE:=B.out.of (I.block _ B.out.lt);have Gp:IsC l d Z 58/\l.cell? ⟨g,o+k*4,none⟩=some (.int .i64 kind)/\l.cell? ⟨g,o+k*4+1,none⟩=some (.int .i64 tree)/\l.cell? ⟨g,o+k*4+2,none⟩=some (.string key)/\l.cell? ⟨g,o+k*4+3,none⟩=some (.string val):=⟨GE,vg.out l yt⟩;have IJ:=dS JY Gz;have FD:=dC A' (opM F kind tree key val).1;have LX:=aA JY;obtain⟨X',PJ⟩:=eZ (aL A' (opM F kind tree key val).1);rw[PJ]at IJ FD;rw[PJ];obtain⟨⟨p,vl,st⟩,O⟩:∃x,(opM F kind tree key val).2=x:=⟨_,rfl⟩;have Ii:=aA O;rw[O];simp only[bW];refine b _ _ (fun _=>Gp) ?_;clear b K2 JY;refine gF (i:=6) (by kernel_rfl) rfl rfl (fun K2 b=>?_);go_simp;refine b _ _ (fun _=>Gp) ?_;clear b K2;refine uH (i:=7) 58 (.agg X') (by omega) rfl (by kernel_rfl) (by kernel_rfl) (by kernel_rfl) (fun _ _ _ h=>h) rfl rfl (fun w'=>by go_simp;try rfl) ?_;simp only[Act.put,sB,sZ,sS];refine uH (i:=8) 59 (.agg #[.int .i64 p,.int .i64 vl,.string st]) (by omega) rfl (by kernel_rfl) (by kernel_rfl) (by kernel_rfl) (fun _ _ _ h=>h) rfl rfl (fun w'=>by go_simp;try rfl) ?_;simp only[Act.put,sB,sZ,sS];refine gF (i:=9) (by kernel_rfl) rfl rfl (fun K2 b=>?_);refine aK _ _ _ rfl d GE rfl rfl (FD.trans H.symm) (by rw[FD];kernel_rfl) IJ fun wc jc P=>?_;refine b _ _ (fun q=>absurd q (by omega)) ?_;clear b K2;have As:c≠d:=by omega
      have ic:=(ia.of (I.block _ ia.lt)).ae P (fun e=>As e);refine gF (i:=10) (by kernel_rfl) rfl rfl (fun K2 b=>?_);refine aK (vs:=#[.int .i64 p,.int .i64 vl,.string st]) _ _ _ rfl c ic rfl rfl rfl (by kernel_rfl) (by simp[Value.oneCell']) fun j y r=>?_;refine b _ _ (fun q=>absurd q (by omega)) ?_;clear b K2;refine qJ (by kernel_rfl) ?_ _;have u0:j.cell? ⟨c,0,none⟩=some (.int .i64 p):=y.c rfl;have u1:j.cell? ⟨c,1,none⟩=some (.int .i64 vl):=y.c rfl;have u2:j.cell? ⟨c,2,none⟩=some (.string st):=y.c rfl;have X:Frm (fun k=>k=d\/k=c) l j:=(P.wide fun _ _ q=>.inl q).trans (r.wide fun _ _ q=>.inr q);have MS:=(MB.out.of (I.block _ MB.out.lt)).ae X (fun e=>by omega);have EY:Sp j d A' (opM F kind tree key val).1:=⟨by rw[PJ];exact jc.ae r (fun e=>As e.symm),LX.out.ae X (fun g cs t ht hg e=>by
       rcases e with e | e
       ·subst e
        refine hg.ab GE ?_ rfl;rcases ht with e | e | e | e<;>rw[e]<;>decide
       ·subst e
        refine hg.ab (ia.of (I.block _ ia.lt)) ?_ rfl;rcases ht with e | e | e | e<;>rw[e]<;>decide)⟩
      have F5:Frm (fun k=>k=d\/k=c) wr j:=((Frm.aa xj).trans (Frm.aa I)).trans X;have ER:=BZ.out.dn F5 (fun g li ws e=>by omega);have C:Bl w j:=yt.trans (X.below yt.size fun g e=>by omega);have Ek:base<=j.heap.size:=lT J9 (lT I.size X.size);have z:=aA (aI MS (aI EY (aI Gz C)));have FP:Hid (gZ (aH N) (a.take (k+1))=(opM F kind tree key val).1):=J.out;have Ba:Hid (fF (aH N) (a.take (k+1))=lA++[(p,vl,st)]):=by have:=G.out;rw[Ii.out]at this;exact this
      clear MS EY F5 r y jc P X GE Gp ic J G Ii HD MB T B LX Ir O PJ wi am Ff I;go_wp2_with (first | (at_builtin;refine yA.av rfl _ _ rfl ER rfl (p,vl,st) rfl rfl Hw Ek ?_;intro v' w7 bd bx k5;have qy:=aA (RuI.next z.out.1 z.out.2.1 FP.out z.out.2.2.1 z.out.2.2.2 Ek (by rw[Ba.out];exact bd) k5 lu.1);clear bd bx k5 ER) | go_in);go_roundw
      case rel=>exact⟨k+1,by omega,by go_num,qy.out⟩
      case measure=>simp[intOf];omega
    ·obtain rfl:k=a.length:=by omega
     have kr:¬((a.length:Nat):Int) <((a.length:Nat):Int):=by omega
     have fh:=dS j8.v jl;have H:=dC A (gZ (aH N) (a.take a.length));have B:=aA j8.box;have Vq:=aA m.b4;have yh:Hid (∀K:World,Frm (fun k=>k=B4) wr K->RuP w (N:Int) a (.returned (.tuple #[.agg (aL A (gZ (aH N) (a.take a.length))),u8,.int .i64 0])) K):=fun K hF=>by
      refine⟨fun q=>(by rw[rx.out]at q;cases q),fun _ q=>absurd q h2,fun _ _=>?_,m.bb.trans (hF.below m.bb.size fun g e=>by rw[e];omega)⟩;rw[QB.out];have e:a.take a.length=a:=List.take_of_length_le (nR _);refine⟨A,u8,by rw[e],?_,jl,?_⟩
      ·have:=j8.v.ae hF (fun g cs t ht hg e=>by
        subst e;refine hg.ab m.b4 ?_ rfl;rcases ht with e | e | e | e<;>rw[e]<;>decide)
       rw[e]at this;exact this
      ·have:=m.own.dn hF (fun g h1 _ e=>by omega)
       rw[e]at this;exact this.base lu.1
     generalize aL A (gZ (aH N) (a.take a.length))=Z at fh H B yh;clear m j8;go_upto_region 16 with fail
     refine wp_region_list ?_;refine wpList_plain rfl (fun K2 b=>?_);refine cR _ rfl d B.out rfl H ?_;refine b _ _ ?_;clear b K2;try simp only[Act.put,sB,sZ,sS]
     refine wpList_plain rfl (fun K2 b=>?_);go_simp;refine b _ _ ?_;clear b K2;try simp only[Act.put,sB,sZ,sS]
     refine wpList_plain rfl (fun K2 b=>?_);refine aK _ _ _ rfl B4 Vq.out rfl rfl (H.trans V.symm) (by rw[H];kernel_rfl) fh fun K jz jzF=>?_;refine b _ _ ?_;clear b K2;try simp only[Act.put,sB,sZ,sS]
     have HF:=aA (yh.out K jzF);clear yh jzF;refine wpList_plain rfl (fun K2 b=>?_);go_simp;refine b _ _ ?_;clear b K2;refine wpList_plain rfl (fun K2 b=>?_);go_simp;refine b _ _ ?_;clear b K2;refine wpList_nil ?_;go_wp2;refine bodyPost_ret (v:=.tuple #[.agg Z,u8,.int .i64 0]) (pR jz H rfl rfl rfl) rfl ?_;exact HF.out
