import Derived.Test.YtaahkgkdpnnhhaaGreatSq28
import Derived.Test.YtaahkgkdpnnhhaaGreatOpenN
set_option maxHeartbeats 9999999
set_option maxRecDepth 99999
set_option linter.all false
namespace Go.Proofs.YtaahkgkdpnnhhaaGreat
open Go.RowKit Fo
variable{S k:Nat}{A:SA}{α:Type}{w:World}{f:fZ}
structure Frs(w:World)(n B2 B3 gc:Nat)(cj:List Int)(tv:Value)(j:Nat)(wr:World):Prop where
 b2:IsC wr B2 #[.int .i64 0,.slice none 0 0,.slice none 0 0,.int .i64 0,.int .i64 0,.slice none 0 0,.slice none 0 0] 57
 c:IsC wr gc (y64.row (List.replicate n 0++cj)) 2
 bel:Bl w wr
 ex:∃ag jk,IsC wr B3 #[.int .i64 n,.slice (adr ag) j (j+jk.length),.slice none 0 0,.int .i64 1,.int .i64 1,.slice (some ⟨gc,0,none⟩) n (n+cj.length),tv] 57∧yN.Rw wr ag (List.replicate j nv0) jk∧∀g,ag=some g→w.heap.size≤g
structure FrP(w:World)(n:Nat)(e:Ending)(w':World):Prop where
 ex:∃A,e=.returned (.agg (aK A (aH n)))∧SpV w' A (aH n)∧∃a k c,A.tv=.slice a k c
 bel:Bl w w'
theorem aDS{a:Array Value}{B:Nat}{x:Array Value}(h:IsC w B x 57)(hx:x.size=7)(e:a.getD 2 undef=.pointer (some ⟨B,0,none⟩)):(results Tryz.f50 a).run Tryz.prog w=.ok (.agg x) w:=by
 have l:=jZ h (by kernel_rfl) (by rw[hx];kernel_rfl);simp only[Array.getD_eq_getD_getElem?]at e;simp[results,Tryz.f50,e,asAddr,l]
theorem yX(n:Nat)(h8:8≤n)(h5:n≤512)(w:World):Calls Tryz.prog 50 #[.int .i64 n] w (FrP w n):=by
 obtain⟨B2,cx⟩:=eZ (w.heap.size);obtain⟨w1,be⟩:=eZ (w.alloc (.cells #[.int .i64 0,.slice none 0 0,.slice none 0 0,.int .i64 0,.int .i64 0,.slice none 0 0,.slice none 0 0] 57));have e1:=bAl be;have c1:=iNw be cx;go_enter Tryz.func50,Tryz.ntmps50;go_wp2_with fail;refine(pN n h5 w1).mono ?_;rintro e w2 ⟨u,rfl,⟨ag,cj,rfl,fi,lk⟩,ba⟩;obtain⟨gc,rfl⟩:∃g,ag=some g:=by
  cases ag with
  | none=>have e:=(fi.nil rfl).1;have:=congrArg List.length e;rw[List.length_replicate,List.length_nil]at this;omega
  | some g=>exact⟨g,rfl⟩
 have xl:IsC w2 gc (y64.row (List.replicate n 0++cj)) 2:=fi.arr gc rfl;have bp:=lk gc rfl;have lq:=fi.small;rw[List.length_replicate]at lq;simp only[adr,Option.map_some,List.length_replicate];obtain⟨q,hq⟩:=eZ (w2.heap.size);obtain⟨w3,dh⟩:=eZ (w2.alloc (.cells #[.int .i64 3] 2));obtain⟨B3,fj⟩:=eZ (w3.heap.size);obtain⟨w4,cn⟩:=eZ (w3.alloc (.cells #[.int .i64 n,.slice none 0 0,.slice none 0 0,.int .i64 1,.int .i64 1,.slice (some ⟨gc,0,none⟩) n (n+cj.length),.slice (some ⟨q,0,none⟩) 1 1] 57));have b23:=bAl dh;have b34:=bAl cn;have b24:=b23.trans (b34.mono b23.size);have b02:=e1.trans (ba.mono e1.size);have b04:=b02.trans (b24.mono b02.size);have i3:=iNw cn fj;have i2:=(c1.of (ba.block _ c1.lt)).of (b24.block _ (lL c1.lt ba.size));have ic:=xl.of (b24.block _ xl.lt);have n23:B2≠B3:=by have:=c1.lt;have:=ba.size;have:=b23.size;omega
 have l3:w.heap.size≤B3:=by have:=b02.size;have:=b23.size;omega
 have PO:w.heap.size≤B2:=Nat.le_of_eq cx;have qn:Hid (Frs w n B2 B3 gc cj (.slice (some ⟨q,0,none⟩) 1 1) 0 w4):=⟨i2,ic,b04,none,[],i3,⟨fun g e=>(by cases e),fun _=>⟨rfl,rfl⟩,by simp⟩,fun g e=>(by cases e)⟩;have Qn:w.heap.size≤gc:=by have:=e1.size;omega
 clear i2 i3 ic c1 xl fi lk cx;go_wp2;go_loopw [4] (fun i wr=>∃j:Nat,j≤n∧i=.int .i64 j∧Frs w n B2 B3 gc cj (.slice (some ⟨q,0,none⟩) 1 1) j wr) (fun i _=>n -(intOf i).toNat)
 case atStart=>exact⟨0,by omega,rfl,qn.out⟩
 case round=>
  clear qn be dh cn;obtain⟨j,hj,rfl,hC⟩:=hrel;obtain⟨ag,jk,k3,fi,lk⟩:=hC.ex;have m1:wr.cell? ⟨B3,1,none⟩=some (.slice (adr ag) j (j+jk.length)):=k3.c rfl;by_cases ai:j<n
  ·have dq:(j:Int) <(n:Int):=by omega
   have av:∀g,ag=some g→g≠B2∧g≠B3∧g≠gc:=fun g e=>⟨(fi.arr g e).type_ne hC.b2 (by decide),(fi.arr g e).type_ne k3 (by decide),(fi.arr g e).type_ne hC.c (by decide)⟩;have UN:Hid (∀(a':Option Nat) (junk':List NV) (w7:World),yN.Rw w7 a' (List.replicate j nv0++[nv0]) junk'→(∀g,a'=some g→ag=some g∨wr.heap.size≤g)→Frm (fun k=>ag=some k) wr w7→(IsC w7 B3 #[.int .i64 n,.slice (adr ag) j (j+jk.length),.slice none 0 0,.int .i64 1,.int .i64 1,.slice (some ⟨gc,0,none⟩) n (n+cj.length),.slice (some ⟨q,0,none⟩) 1 1] 57∧Frs w n B2 B3 gc cj (.slice (some ⟨q,0,none⟩) 1 1) (j+1) (w7.setCell ⟨B3,1,none⟩ (.slice (adr a') (j+1) (j+1+junk'.length))))):=fun a' junk' w7 h1 h2 h3=>by
    have k7:=k3.frm h3 (fun e=>(av _ e).2.1 rfl);have b7:=hC.b2.frm h3 (fun e=>(av _ e).1 rfl);have c7:=hC.c.frm h3 (fun e=>(av _ e).2.2 rfl);have be7:Bl w w7:=hC.bel.trans (h3.below hC.bel.size fun g e=>lk g e);refine⟨k7,b7.set_ne _ n23,c7.set_ne _ (c7.type_ne k7 (by decide)),be7.trans ((bQ _ w7).setCell (p:=⟨B3,1,none⟩) l3 _),a',junk',?_,?_,?_⟩
    ·have:=k7.set 1 (.slice (adr a') (j+1) (j+1+junk'.length))
     simpa using this
    ·have e:List.replicate (j+1) nv0=List.replicate j nv0++[nv0]:=by rw[List.replicate_succ']
     rw[e];exact h1.frm (Frm.set (S:=fun k=>k=B3) w7 (p:=⟨B3,1,none⟩) rfl _) (fun g eg=>(h1.arr g eg).type_ne k7 (by decide))
    ·intro g eg
     rcases h2 g eg with q | q
     ·exact lk g q
     ·have:=hC.bel.size;omega
   have ah:(List.replicate j nv0).length=j:=List.length_replicate;have LU:yN.Rw wr ag (List.replicate j nv0) jk:=fi;have m1':wr.cell? ⟨B3,1,none⟩=some (.slice (adr ag) (List.replicate j nv0).length ((List.replicate j nv0).length+jk.length)):=by rw[ah];exact m1
   have SV:=aA ah;clear hC k3 fi ah m1;generalize List.replicate j nv0=zs at *;go_wp2_with (first | (at_builtin;refine yN.wpApp1F rfl _ _ rfl LU rfl nv0 rfl rfl (by rw[SV.out];omega) ?_;intro a' junk' w7 z1 z2 z3;obtain⟨k7,GZ⟩:=UN.out a' junk' w7 z1 z2 z3;have m7:w7.cell? ⟨B3,1,none⟩=some (.slice (adr ag) j (j+jk.length)):=(k7.c rfl);have f7:=k7.frozen 1;rw[lP,SV.out];clear z1 z2 z3 k7) | go_in);refine⟨⟨j+1,by omega,by go_num,GZ⟩,?_⟩;simp[intOf];omega
  ·obtain rfl:j=n:=by omega
   obtain⟨g1,rfl⟩:∃g,ag=some g:=by
    cases ag with
    | none=>have e:=(fi.nil rfl).1;have:=congrArg List.length e;rw[List.length_replicate,List.length_nil]at this;omega
    | some g=>exact⟨g,rfl⟩
   have g9:=lk g1 rfl;have Ew:iZ wr g1 (List.replicate j nv0) jk (fun _=>none):=⟨fi.arr g1 rfl,fun b d e=>(by cases e),fi.small⟩;have qv:(List.replicate j nv0).length=j:=List.length_replicate;have L1:NdR wr (1,none,0,0) (1,[]):=⟨rfl,.inl ⟨rfl,rfl⟩,by simp⟩;have yv:=Ew.set2 (q:=2) (by rw[qv];omega) L1;have n13:g1≠B3:=Ew.arr.type_ne k3 (by decide);have n12:g1≠B2:=Ew.arr.type_ne hC.b2 (by decide);have n1c:g1≠gc:=Ew.arr.type_ne hC.c (by decide);have nc3:gc≠B3:=hC.c.type_ne k3 (by decide);have F1:=eF wr g1 2 (1,none,0,0);have x4:wr.cell? ⟨g1,4,none⟩=some (.int .i64 0):=by
    have:=yN.at (List.replicate j nv0++jk) (i:=2) (j:=0) (by simp;omega) (by decide)
    rw[Ew.arr.cell];rw[cX,if_pos (by rw[qv];omega)]at this;have e2:(List.replicate j nv0).getD 2 yN.z=nv0:=by rw[gD,List.getElem?_replicate];split<;>rfl
    rw[e2]at this;exact this
   have x5:wr.cell? ⟨g1,5,none⟩=some (.slice none 0 0):=by
    have:=yN.at (List.replicate j nv0++jk) (i:=2) (j:=1) (by simp;omega) (by decide)
    rw[Ew.arr.cell];rw[cX,if_pos (by rw[qv];omega)]at this;have e2:(List.replicate j nv0).getD 2 yN.z=nv0:=by rw[gD,List.getElem?_replicate];split<;>rfl
    rw[e2]at this;exact this
   have f4:=Ew.arr.frozen 4;have f5:=Ew.arr.frozen 5;have z8:∃W,(wr.setCell ⟨g1,4,none⟩ (.int .i64 1)).setCell ⟨g1,5,none⟩ (.slice none 0 0)=W:=⟨_,rfl⟩;obtain⟨W1,z8⟩:=z8;have LA:set2 wr g1 2 (1,none,0,0)=W1:=z8;rw[LA]at yv F1;have k31:=k3.frm F1 (fun e=>n13 e.symm);have b21:=hC.b2.frm F1 (fun e=>n12 e.symm);have c01:=hC.c.frm F1 (fun e=>n1c e.symm);have be1:Bl w W1:=hC.bel.trans (F1.below hC.bel.size fun g e=>by rw[e];exact g9);obtain⟨gr,bm⟩:=eZ (W1.heap.size);obtain⟨W2,uz⟩:=eZ (W1.alloc (.cells #[.int .i64 0,.int .i64 2] 77));have bw2:=bAl uz;have ir:=iNw uz bm;have k32:=k31.of (bw2.block _ k31.lt);have b22:=b21.of (bw2.block _ b21.lt);have c02:=c01.of (bw2.block _ c01.lt);have sc:=yv.below bw2;have m2:W2.cell? ⟨B3,2,none⟩=some (.slice none 0 0):=k32.c rfl;have z2:=k32.frozen 2;have k33:=k32.set 2 (.slice (some ⟨gr,0,none⟩) 1 1);have F3:Frm (fun k=>k=B3) W2 (W2.setCell ⟨B3,2,none⟩ (.slice (some ⟨gr,0,none⟩) 1 1)):=Frm.set (S:=fun k=>k=B3) W2 (p:=⟨B3,2,none⟩) rfl _;obtain⟨W3,yy⟩:=eZ (W2.setCell ⟨B3,2,none⟩ (.slice (some ⟨gr,0,none⟩) 1 1));rw[yy]at k33 F3;have nr3:gr≠B3:=ir.type_ne k32 (by decide);have b23':=b22.frm F3 (fun e=>n23 e);have c03:=c02.frm F3 (fun e=>nc3 e);have ir3:=ir.frm F3 (fun e=>nr3 e);have q7:=sc.frm F3 (fun g cs hg e=>by subst e;exact hg.type_ne k32 (by decide) rfl) (fun e=>n13 e);have R7:(List.replicate j (0:Int)).length=j:=List.length_replicate;have y2:=jE c03 (i:=2) (by rw[R7];omega);have fz2:=c03.frozen 2;have c04:=oN c03 (i:=2) (by rw[R7];omega) 1;have F4:Frm (fun k=>k=gc) W3 (W3.setCell ⟨gc,2,none⟩ (.int .i64 1)):=Frm.set (S:=fun k=>k=gc) W3 (p:=⟨gc,2,none⟩) rfl _;obtain⟨W4,Fk⟩:=eZ (W3.setCell ⟨gc,2,none⟩ (.int .i64 1));rw[Fk]at c04 F4;have y3:=jE c04 (i:=3) (by simp;omega);have fz3:=c04.frozen 3;have c05:=oN c04 (i:=3) (by simp;omega) 1;have F5:Frm (fun k=>k=gc) W4 (W4.setCell ⟨gc,3,none⟩ (.int .i64 1)):=Frm.set (S:=fun k=>k=gc) W4 (p:=⟨gc,3,none⟩) rfl _;obtain⟨W5,vb⟩:=eZ (W4.setCell ⟨gc,3,none⟩ (.int .i64 1));rw[vb]at c05 F5;have F45:=F4.trans F5;have k35:=k33.frm F45 (fun e=>nc3 e.symm);have k34:=k33.frm F4 (fun e=>nc3 e.symm);have n2c:B2≠gc:=fun e=>hC.c.type_ne hC.b2 (by decide) e.symm;have b25:=b23'.frm F45 (fun e=>n2c e);have nrc:gr≠gc:=ir3.type_ne c03 (by decide);have ir5:=ir3.frm F45 (fun e=>nrc e);have iy:=q7.frm F45 (fun g cs hg e=>by subst e;exact hg.type_ne c03 (by decide) rfl) (fun e=>n1c e);have be5:Bl w W5:=by
    have q1:=be1.trans (bw2.mono be1.size);have q2:=q1.trans (F3.below q1.size fun g e=>by rw[e];exact l3);exact q2.trans (F45.below q2.size fun g e=>by rw[e];exact Qn)
   have m53:W3.cell? ⟨B3,5,none⟩=some (.slice (some ⟨gc,0,none⟩) j (j+cj.length)):=k33.c rfl;have m54:W4.cell? ⟨B3,5,none⟩=some (.slice (some ⟨gc,0,none⟩) j (j+cj.length)):=k34.c rfl;have dw:((List.replicate j nv0).set 2 (1,none,0,0)).length=j:=by simp
   have au:(((List.replicate j (0:Int)).set 2 1).set 3 1).length=j:=by simp
   have hV:SpV W5 {ga:=g1,ns:=(List.replicate j nv0).set 2 (1,none,0,0),nj:=jk,gr:=gr,rj:=[],cv:=.slice (some ⟨gc,0,none⟩) j (j+cj.length),tv:=.slice (some ⟨q,0,none⟩) 1 1} (aH j):=by
    refine⟨⟨iy.arr,fun b d hd=>?_,iy.small⟩,?_,?_,by simp[aH,maxLen],.inr ⟨gc,0,j+cj.length,((List.replicate j (0:Int)).set 2 1).set 3 1++cj,?_,c05,?_,?_⟩⟩
    ·refine iy.nd b d ?_
     rw[←hd];show upd (fun _=>none) 2 (some (1,[])) b=if b=2 then some (1,[])else none
     rfl
    ·simp[aH]
    ·have:=ir5
     simpa [aH,Ely.row,yT,aT] using this
    ·simp[aH]
    ·simp[aH]
    ·simp[aH]
   have TX:#[Value.int .i64 j,.slice (some ⟨g1,0,none⟩) j (j+jk.length),.slice (some ⟨gr,0,none⟩) 1 1,.int .i64 1,.int .i64 1,.slice (some ⟨gc,0,none⟩) j (j+cj.length),.slice (some ⟨q,0,none⟩) 1 1]=aK {ga:=g1,ns:=(List.replicate j nv0).set 2 (1,none,0,0),nj:=jk,gr:=gr,rj:=[],cv:=.slice (some ⟨gc,0,none⟩) j (j+cj.length),tv:=.slice (some ⟨q,0,none⟩) 1 1} (aH j):=by
    simp[aK,aH]
   have kx:IsC W5 B3 #[Value.int .i64 j,.slice (some ⟨g1,0,none⟩) j (j+jk.length),.slice (some ⟨gr,0,none⟩) 1 1,.int .i64 1,.int .i64 1,.slice (some ⟨gc,0,none⟩) j (j+cj.length),.slice (some ⟨q,0,none⟩) 1 1] 57:=by simpa [adr] using k35
   have zh:Hid (∀wa:World,Frm (fun k=>k=B2) W5 wa→FrP w j (.returned (.agg #[Value.int .i64 j,.slice (some ⟨g1,0,none⟩) j (j+jk.length),.slice (some ⟨gr,0,none⟩) 1 1,.int .i64 1,.int .i64 1,.slice (some ⟨gc,0,none⟩) j (j+cj.length),.slice (some ⟨q,0,none⟩) 1 1])) wa):=fun wa hF=>by
    rw[TX];refine⟨⟨_,rfl,?_,⟨_,_,_,rfl⟩⟩,be5.trans (hF.below be5.size fun g e=>by rw[e];exact PO)⟩;refine hV.frm hF (fun g cs t ht hg e=>?_);subst e;refine hg.type_ne b25 ?_ rfl;rcases ht with e | e | e | e<;>rw[e]<;>decide
   have ez:(#[Value.int .i64 j,.slice (some ⟨g1,0,none⟩) j (j+jk.length),.slice (some ⟨gr,0,none⟩) 1 1,.int .i64 1,.int .i64 1,.slice (some ⟨gc,0,none⟩) j (j+cj.length),.slice (some ⟨q,0,none⟩) 1 1]).all (·.oneCell')=true:=by simp[Value.oneCell']
   have Bx:(#[Value.int .i64 j,.slice (some ⟨g1,0,none⟩) j (j+jk.length),.slice (some ⟨gr,0,none⟩) 1 1,.int .i64 1,.int .i64 1,.slice (some ⟨gc,0,none⟩) j (j+cj.length),.slice (some ⟨q,0,none⟩) 1 1]).size=7:=rfl;generalize (#[Value.int .i64 j,.slice (some ⟨g1,0,none⟩) j (j+jk.length),.slice (some ⟨gr,0,none⟩) 1 1,.int .i64 1,.int .i64 1,.slice (some ⟨gc,0,none⟩) j (j+cj.length),.slice (some ⟨q,0,none⟩) 1 1])=XS at kx zh ez Bx;have N5:(2:Int) <(j:Int):=by omega
   have Xy:(3:Int) <(j:Int):=by omega
   have r1:wr.cell? ⟨B3,1,none⟩=some (.slice (some ⟨g1,0,none⟩) j (j+jk.length)):=m1;have KX:=aA kx;have B25:=aA b25;clear TX hV Ew yv sc q7 iy k3 k31 k32 k33 k34 k35 kx b21 b22 b23' b25 c01 c02 c03 c04 c05 ir ir3 ir5 F1 F3 F4 F5 F45 bw2 be1 be5 hC fi lk L1 LA m1 qv R7 dw au;generalize (List.replicate j (0:Int)).getD 2 0=v2 at *;generalize ((List.replicate j (0:Int)).set 2 1).getD 3 0=v3 at *;go_upto_region 10 with fail
   refine wp_region_list ?_;refine wpList_plain rfl (fun K2 ae=>?_);refine cM _ rfl B3 KX.out rfl Bx ?_;refine ae _ _ ?_;clear ae K2;simp only[Act.put,sB,sZ,sS];refine wpList_plain rfl (fun K2 ae=>?_);refine aL _ _ _ rfl B2 B25.out rfl rfl Bx (by rw[Bx];kernel_rfl) ez fun wa ja jaF=>?_;refine ae _ _ ?_;clear ae K2;refine wpList_nil ?_;simp only[Act.put,sB,sZ,sS];have UU:=aA (zh.out wa jaF);clear zh jaF;go_wp2;refine bodyPost_ret (v:=.agg XS) (aDS ja Bx rfl) rfl ?_;exact UU.out
structure CmP(w:World)(S:Nat)(f:fZ)(e:Ending)(w':World):Prop where
 ex:∃A' a0 n0 c0 a1 n1 c1 rv,e=.returned (.tuple #[.slice a0 n0 c0,.slice a1 n1 c1,rv,.int .i64 (cS f).2.1])∧((n0:Int)+(n1:Int))=(cS f).2.2.1∧n0≤512∧n1≤512∧Sp w' S A' (cS f).1∧∃a k c,A'.tv=.slice a k c
 frm:Frm (fun k=>k=S) w w'
theorem CmP.bad{w':World}(h:Sp w S A f)(jf:∃a k c,A.tv=.slice a k c){c:Int}(hc:cS f=(f,c,0,.empty))(hb:Bl w w'):CmP w S f (.returned (.tuple #[.slice none 0 0,.slice none 0 0,.slice none 0 0,.int .i64 c])) w':=
 ⟨⟨A,none,0,0,none,0,0,.slice none 0 0,by rw[hc],by rw[hc];rfl,by omega,by omega,by rw[hc];exact h.below hb,jf⟩,Frm.of_below hb⟩
theorem CmP.good{w3:World}(h:Sp w S A f)(hI:Inv f){p:List Int}(hc:cS f=(dP f p,0,(dX f:Int)+(p.length:Int),.empty))(hb:Bl w w3){gc:Nat}{cj:List Int}(Cw:IsC w3 gc (y64.row (bF f.cur p++cj)) 2)(bp:w.heap.size≤gc)(hp:p.length≤512)(a0 a1:Option Addr)(c0 c1:Nat)(rv:Value):
  CmP w S f (.returned (.tuple #[.slice a0 (dX f) c0,.slice a1 p.length c1,rv,.int .i64 0])) (((w3.setCell ⟨S,5,none⟩ (.slice (some ⟨gc,0,none⟩) f.cur.length (f.cur.length+cj.length))).setCell ⟨S,6,none⟩ (.slice a1 p.length c1)).setCell ⟨S,4,none⟩ (.int .i64 (f.gen+1))):=by
 have av:gc≠S:=by have:=h.box.lt;omega
 have ce:=h.box.of (hb.block _ h.box.lt);have k1:=ce.set 5 (.slice (some ⟨gc,0,none⟩) f.cur.length (f.cur.length+cj.length));have k2:=k1.set 6 (.slice a1 p.length c1);have k3:=k2.set 4 (.int .i64 (f.gen+1));have F:Frm (fun k=>k=S) w (((w3.setCell ⟨S,5,none⟩ (.slice (some ⟨gc,0,none⟩) f.cur.length (f.cur.length+cj.length))).setCell ⟨S,6,none⟩ (.slice a1 p.length c1)).setCell ⟨S,4,none⟩ (.int .i64 (f.gen+1))):=
  (((Frm.of_below hb).trans (Frm.set (S:=fun k=>k=S) w3 (p:=⟨S,5,none⟩) rfl _)).trans (Frm.set (S:=fun k=>k=S) _ (p:=⟨S,6,none⟩) rfl _)).trans (Frm.set (S:=fun k=>k=S) _ (p:=⟨S,4,none⟩) rfl _)
 have hv:=h.v.frm F (fun g cs t ht hg e=>by
  subst e;refine hg.type_ne h.box ?_ rfl;rcases ht with e | e | e | e<;>rw[e]<;>decide)
 have Cu:=((Cw.set_ne (p:=⟨S,5,none⟩) (.slice (some ⟨gc,0,none⟩) f.cur.length (f.cur.length+cj.length)) av).set_ne (p:=⟨S,6,none⟩) (.slice a1 p.length c1) av).set_ne (p:=⟨S,4,none⟩) (.int .i64 (f.gen+1)) av;have hd:=uW f;have h5:=hI.ic.n512;refine⟨⟨{A with cv:=.slice (some ⟨gc,0,none⟩) f.cur.length (f.cur.length+cj.length),tv:=.slice a1 p.length c1},a0,dX f,c0,a1,p.length,c1,rv,by rw[hc],by rw[hc],by omega,hp,?_,⟨_,_,_,rfl⟩⟩,F⟩;rw[hc];refine⟨?_,hv.nds,hv.ln,hv.rts,hv.rs,.inr ⟨gc,0,f.cur.length+cj.length,bF f.cur p++cj,?_,Cu,?_,?_⟩⟩
 ·simpa [aK,dP] using k3
 ·show Value.slice _ _ _=_
  have e:(dP f p).com.length=f.cur.length:=iY _ _;rw[e];simp
 ·show 0+(bF f.cur p).length≤_
  simp
 ·show((bF f.cur p++cj).drop 0).take (bF f.cur p).length=_
  simp[dP]
theorem xG(c p:List Int)(j:Nat)(h:j<p.length):bF c (p.take (j+1))=(bF c (p.take j)).set (p.getD j 0).toNat 1:=by
 rw[cC p j 0 h];unfold bF;rw[List.foldl_append];rfl
theorem aDN(h:0<cu f k)(h2:co f k=0):(dA f (k+1)).map (fun x:Nat=>(x:Int))=(dA f k).map (fun x:Nat=>(x:Int))++[(k:Int)]:=by
 show(dA f k++if 0<cu f k∧co f k=0 then [k]else []).map _=_
 rw[if_pos ⟨h,h2⟩,List.map_append];rfl
theorem aGB(h:¬(0<cu f k∧co f k=0)):(dA f (k+1)).map (fun x:Nat=>(x:Int))=(dA f k).map (fun x:Nat=>(x:Int)):=by
 show(dA f k++if 0<cu f k∧co f k=0 then [k]else []).map _=_
 rw[if_neg h,List.append_nil]
theorem wR(hI:Inv f)(w:World)(S:Nat)(A:SA)(h:Sp w S A f)(jf:∃a k c,A.tv=.slice a k c):
  Calls Tryz.prog 51 #[.pointer (some ⟨S,0,none⟩)] w (CmP w S f):=by
 have h8:=hI.ic.n8;have h5:=hI.ic.n512;have Me:=hI.gn;have TN:=h.box.lt;obtain⟨s0,_,_,_,s4,_,_⟩:=h.cells;have ix:=aA fun(w':World) (c:Int) (hc:cS f=(f,c,0,.empty)) (hb:Bl w w')=>CmP.bad h jf hc hb;by_cases hg:1099511627776≤f.gen
 ·have HC:Hid (cS f=(f,4,0,.empty)):=by unfold cS;rw[if_pos hg];rfl
  go_enter Tryz.func51,Tryz.ntmps51
  go_wp2
  refine bodyPost_ret (v:=.tuple #[.slice none 0 0,.slice none 0 0,.slice none 0 0,.int .i64 4]) (by simp[results,Tryz.results51,go_sem]) rfl ?_;exact ix.out _ _ HC.out (bQ _ _)
 ·go_enter Tryz.func51,Tryz.ntmps51
  go_wp2_with fail
  refine(fS hI.ic (fun x=>by have:=hI.counts x;omega) (fun b d hd=>by have:=hI.ent hd;omega) w S A h (by have:=hI.r16;omega)).mono ?_;rintro r w1 ⟨u,rfl,⟨ag,cj,rfl,fi,lk⟩,ao⟩;obtain⟨gc,rfl⟩:∃g,ag=some g:=by
   cases ag with
   | none=>have e:=(fi.nil rfl).1;rw[e]at h8;simp at h8
   | some g=>exact⟨g,rfl⟩
  have xl:IsC w1 gc (y64.row (f.cur++cj)) 2:=fi.arr gc rfl;have bp:=lk gc rfl;have lq:=fi.small;have h1:=h.below ao;obtain⟨_,_,_,_,_,s5,_⟩:=h1.cells;obtain⟨gm,om,cm,sf,AI,_,xj⟩:=mT h1.v.com (by rw[hI.ic.len];omega);have nm:Nts w1 (.slice (some ⟨gc,0,none⟩) f.cur.length (f.cur.length+cj.length)) f.cur:=Ely.Sl.nts fi.sl (fun i=>by have:=hI.counts i;have e:f.cur.getD i 0=cu f i:=rfl;rw[e];omega);have C1:Nts w1 (.slice (some ⟨gm,om,none⟩) f.com.length cm) f.com:=by
   rw[←sf];exact Ely.Sl.nts h1.v.com (fun i=>by have:=hI.cmr i;have e:f.com.getD i 0=co f i:=rfl;rw[e];omega)
  rw[sf]at s5;have WN:gm<w.heap.size:=by
   rcases h.v.com with⟨e,_⟩ | ⟨g,o,cap,xs,e,k,_⟩
   ·rw[sf]at e;cases e
   ·rw[sf]at e;cases e;exact k.lt
  simp only[adr,Option.map_some];have HL:Hid (f.com.length=f.cur.length):=hI.ic.len;have HZ:=aA xl;have WM:=xl.lt;have s41:w1.cell? ⟨S,4,none⟩=some (.int .i64 f.gen):=h1.cells.2.2.2.2.1;clear sf fi lk xl h1;go_wp2_with fail;refine(aAW _ _ _ _ f.cur f.com w1 nm C1 (aCF hI)).mono ?_;rintro e w2 ⟨a0,c0,a1,c1,l0,u0,l1,u1,rfl,q1,q2,q3,q4,_,hP,_,ba⟩;have ff:=ao.trans (ba.mono ao.size);have qi:=sR f.cur f.com;have Se:=aA (qU (zs:=f.cur) (ys:=f.com));have Eo:Hid (cS f=if 1099511627776≤f.gen then(f,4,0,.empty)else if plC f.cur f.com≠0 then(f,plC f.cur f.com,0,.empty)else(dP f (plP f.cur f.com),0,(dX f:Int)+((plP f.cur f.com).length:Int),.empty)):=(rfl:cS f=_);obtain⟨pc,wh⟩:=eZ (plC f.cur f.com);obtain⟨p,hp⟩:=eZ (plP f.cur f.com);obtain⟨rs,Kz⟩:=eZ (plR f.cur f.com);rw[wh,hp]at Eo;rw[hp]at Se qi hP;rw[wh,hp,Kz];clear wh hp Kz nm C1;by_cases hc:pc=0
  ·subst hc
   have HC:Hid (cS f=(dP f p,0,(dX f:Int)+(p.length:Int),.empty)):=by
    have:=Eo.out;rw[if_neg (by omega),if_neg (by simp)]at this;exact this
   have Ae:IsC w2 gc (y64.row (f.cur++cj)) 2:=HZ.out.of (ba.block _ HZ.out.lt);have PG:=aA Ae;have Mc:=Ae.lt;have TC:=aA hP;have ax:∀(w':World),Bl w2 w'→Sp w' S A f:=fun w' hb=>h.below (ff.trans (hb.mono ff.size));have pu:=aA ax;have s02:w2.cell? ⟨S,0,none⟩=some (.int .i64 f.cur.length):=(ax w2 (bQ _ _)).cells.1;have ts:=aA fun(w':World) (k:Nat) (hb:Bl w2 w') (hk:k<f.cur.length)=>xj w' k ((hb.block gm (lL AI ba.size)).trans (ba.block gm AI)) (by rw[HL.out];exact hk);have CD:=aA fun(w':World) (hb:Bl w2 w')=>(hb.cell (p:=⟨S,5,none⟩) (lL TN ff.size)).trans ((ba.cell (p:=⟨S,5,none⟩) (lL TN ao.size)).trans s5);clear ax Ae hP xj Eo;go_wp2;go_loopw [10,11] (fun d i wr=>∃k:Nat,k≤f.cur.length∧i=.int .i64 k∧y64.Own w2.heap.size wr d ((dA f k).map fun x:Nat=>(x:Int))∧Bl w2 wr) (fun _ i _=>f.cur.length -(intOf i).toNat)
   case atStart=>exact⟨0,by omega,rfl,Ely.Own.lit _ w2 (nR _) _ rfl,(bQ _ w2).alloc (nR _) _⟩
   case round=>
    obtain⟨k,tq,rfl,ap,ce⟩:=hrel;have cq:=pu.out wr ce;have t0:=cq.cells.1;have t5:=CD.out wr ce;by_cases ai:k<f.cur.length
    ·have x0:=jE (PG.out.of (ce.block _ Mc)) ai
     have x1:=ts.out wr k ce ai;have lm:(k:Int) <(f.cur.length:Int):=by omega
     have EV:(k:Int) <(f.com.length:Int):=by rw[HL.out];omega
     have AX:=ce.size;have tj:((dA f k).map fun x:Nat=>(x:Int)).length<1000000:=by have:=kO f k;simp;omega
     have HY:=aA (aDN (f:=f) (k:=k));have HN:=aA (aGB (f:=f) (k:=k));unfold cu co at HY HN;generalize f.cur.getD k 0=x at *;generalize f.com.getD k 0=y at *;clear cq pu;by_cases hx:0<x
     ·by_cases hy:y=0
      ·have HD:=aA (HY.out hx hy)
       clear HY HN;go_wp2_with (first | (at_builtin;refine y64.wpApp1 rfl _ _ rfl ap rfl (k:Int) rfl rfl tj AX ?_;intro v' w3 ee di k3) | go_in);rw[←HD.out]at ee;go_roundw
       case rel=>exact⟨k+1,by omega,by go_num,ee,ce.trans di⟩
       case measure=>simp[intOf];omega
      ·have HD:=aA (HN.out (fun q=>hy q.2))
       clear HY HN;rw[←HD.out]at ap;go_wp2;go_roundw
       case rel=>exact⟨k+1,by omega,by go_num,ap,ce⟩
       case measure=>simp[intOf];omega
     ·have HD:=aA (HN.out (fun q=>hx q.1))
      clear HY HN;rw[←HD.out]at ap;go_wp2;go_roundw
      case rel=>exact⟨k+1,by omega,by go_num,ap,ce⟩
      case measure=>simp[intOf];omega
    ·obtain⟨w5,rfl⟩:∃w5,w5=wr:=⟨wr,rfl⟩
     obtain rfl:k=f.cur.length:=by omega
     obtain⟨da,dc,Tf⟩:=ap.sl.len;have Kk:((dA f f.cur.length).map fun x:Nat=>(x:Int)).length=dX f:=by simp[dX]
     rw[Kk]at Tf;subst Tf;have vn:=PG.out.of (ce.block _ Mc);have SX:=aA (TC.out.below ce);have AX:=ce.size;have oz:=ff.trans (ce.mono ff.size);clear ap cq pu ts CD t5 TC Kk;go_wp2;go_loopw [12] (fun i w4=>∃j:Nat,j≤p.length∧i=.int .i64 j∧IsC w4 gc (y64.row (bF f.cur (p.take j)++cj)) 2∧Frm (fun k=>k=gc) w5 w4) (fun i _=>p.length -(intOf i).toNat)
     case atStart=>exact⟨0,by omega,rfl,by simpa [bF] using vn,Frm.refl _ _⟩
     case round=>
      obtain⟨j,hj,rfl,i9,jm⟩:=hrel;obtain⟨w4,rfl⟩:∃w4,w4=wr:=⟨wr,rfl⟩;by_cases ai:j<p.length
      ·have TD:=SX.out.kept (w':=w4) jm.size (fun b ao ba ce=>jm.block b ce (fun e=>by subst e;omega))
       obtain⟨_,_,he,hs⟩:=TD.shape;simp only[Value.slice.injEq,true_and]at he;obtain⟨rfl,rfl⟩:=he;obtain⟨pb,po,rfl,_,_,_,wh⟩:=hs (by omega);have x0:=(wh j ai).1;have Bq:p.getD j 0∈p:=by rw[gD,gE ai];exact List.getElem_mem ai
       have qr:=Se.out _ Bq;have wt:=aA (xG f.cur p j ai);obtain⟨bb,E2⟩:∃bb:Nat,p.getD j 0=(bb:Int):=⟨(p.getD j 0).toNat,by omega⟩;rw[E2]at x0 qr wt;simp only[Int.toNat_natCast]at wt;have au:(bF f.cur (p.take j)).length=f.cur.length:=iY _ _;have so:bb<f.cur.length:=by omega
       have yb:=jE i9 (i:=bb) (by rw[au];exact so);have zb:=i9.frozen bb;have FN:=aA (oN i9 (i:=bb) (by rw[au];exact so) 1);rw[←wt.out]at FN;have CR:(bb:Int) <(f.cur.length:Int):=by omega
       have dq:(j:Int) <(p.length:Int):=by omega
       generalize (bF f.cur (p.take j)).getD bb 0=cv at *;clear TD hs wh Bq E2 au wt vn i9;go_wp2;go_roundw
       case rel=>exact⟨j+1,by omega,by go_num,FN.out,jm.trans (Frm.set (S:=fun k=>k=gc) _ (p:=⟨gc,bb,none⟩) rfl _)⟩
       case measure=>simp[intOf];omega
      ·obtain rfl:j=p.length:=by omega
       rw[List.take_of_length_le (nR _)]at i9;have re:Bl w w4:=oz.trans (jm.below oz.size fun g e=>by rw[e];exact bp);have aw:=h.below re;obtain⟨_,_,_,_,v4,v5,v6⟩:=aw.cells;have z4:=aw.box.frozen 4;have z5:=aw.box.frozen 5;have z6:=aw.box.frozen 6;have HG:=aA (CmP.good h hI HC.out re i9 bp qi da a0 dc c0 (.slice a1 rs.length c1));have Qq:=hI.gn;clear i9 aw jm vn SX HZ PG h re;go_wp2;refine bodyPost_ret (v:=.tuple #[.slice da (dX f) dc,.slice a0 p.length c0,.slice a1 rs.length c1,.int .i64 0]) (by simp[results,Tryz.results51,go_sem]) rfl ?_;exact HG.out
  ·have HC:Hid (cS f=(f,pc,0,.empty)):=by
    have:=Eo.out;rw[if_neg (by omega),if_pos hc]at this;exact this
   clear hP Eo;go_wp2;refine bodyPost_ret (v:=.tuple #[.slice none 0 0,.slice none 0 0,.slice none 0 0,.int .i64 pc]) (by simp[results,Tryz.results51,go_sem]) rfl ?_;exact ix.out _ _ HC.out ff
def aKL(o:TO):List Value:=[.int .i64 o.1,.int .i64 o.2.1,.string o.2.2.1,.string o.2.2.2]
def yO:Ely TO where
 cell:=aKL
 n:=4
 z:=(0,0,.empty,.empty)
 zv:=.agg #[.int .i64 0,.int .i64 0,.string .empty,.string .empty]
 t:=63
 s:=27
 by':=48
 hn:=fun _=>rfl
 hp:=by omega
 one:=fun a v hv=>by simp only[aKL,List.mem_cons,List.not_mem_nil,or_false]at hv;rcases hv with rfl | rfl | rfl | rfl<;>rfl
 hz:=by kernel_rfl
 us:=Tryz.underlying27
 hb:=by omega
 info:=oT (by kernel_rfl)
def aCD(a:An):List Value:=[.int .i64 a.1,.int .i64 a.2.1,.string a.2.2]
def yA:Ely An where
 cell:=aCD
 n:=3
 z:=(0,0,.empty)
 zv:=.agg #[.int .i64 0,.int .i64 0,.string .empty]
 t:=92
 s:=46
 by':=32
 hn:=fun _=>rfl
 hp:=by omega
 one:=fun a v hv=>by simp only[aCD,List.mem_cons,List.not_mem_nil,or_false]at hv;rcases hv with rfl | rfl | rfl<;>rfl
 hz:=by kernel_rfl
 us:=Tryz.underlying46
 hb:=by omega
 info:=oT (by kernel_rfl)
theorem Ely.make(Y:Ely α)(n:Nat)(hn:n≤1048576)(w:World):(Instr.makeSlice Y.s (.int .i64 (n:Int)) (.int .i64 (n:Int))).run Tryz.prog w=.ok (.slice (some ⟨w.heap.size,0,none⟩) n n) (w.alloc (.cells (Y.row (List.replicate n Y.z)) Y.t)):=by
 obtain⟨i,hi,hs,X7,hz⟩:=Y.info;have hb:=Y.hb;have E2:(i.bytes:Int)*(n:Int)≤281474976710656:=by
  have h1:i.bytes*n≤64*1048576:=Nat.mul_le_mul (by omega) hn;have h2:((i.bytes*n:Nat):Int)≤((64*1048576:Nat):Int):=by omega
  rw[Int.natCast_mul]at h2;omega
 have hr:=run_make (P:=Tryz.prog) w Y.s Y.t i _ Y.us hi hz .i64 .i64 n n (by omega) (Int.le_refl _) E2 (by omega);simp only[Int.toNat_natCast,hs]at hr;have e:madeCells Y.zv.cells (n*Y.n)=Y.row (List.replicate n Y.z):=by
  have h1:=Y.zeroL n;have h2:Y.zv.cells.size=Y.n:=by rw[Y.hz];simp[Y.hn]
  unfold Builtin.zeroCells at h1;rw[h2]at h1;unfold madeCells;rw[h2];exact h1
 rw[e]at hr;exact hr
theorem Ely.setAt(Y:Ely α){g:Nat}{l:List α}(h:IsC w g (Y.row l) Y.t){i:Nat}(hi:i<l.length)(a:α):IsC (w.setCells g (i*Y.n) (Y.cell a)) g (Y.row (l.set i a)) Y.t:=by
 have hl:i*Y.n+(Y.cell a).length≤(l.flatMap Y.cell).length:=by
  rw[Y.hn,Y.len];have:(i+1)*Y.n≤l.length*Y.n:=Nat.mul_le_mul_right _ hi;rw[Nat.succ_mul]at this;exact this
 have:=IsC.sets (Y.cell a) (i*Y.n) h hl
 have e:Go.Proofs.YtaahkgkdpnnhhaaGreat.spl (l.flatMap Y.cell) (i*Y.n) (Y.cell a)=(l.set i a).flatMap Y.cell:=by
  have h1:=Y.spl l [a] i;simp only[List.flatMap_cons,List.flatMap_nil,List.append_nil]at h1;rw[h1];congr 1;unfold Go.Proofs.YtaahkgkdpnnhhaaGreat.spl;rw[List.set_eq_take_append_cons_drop,if_pos hi];simp
 rw[e]at this;exact this
theorem aKT{u:Value}{l:List TO}(h:yO.Sl w u l)(hl:0<l.length):∃g o c,u=.slice (some ⟨g,o,none⟩) l.length c∧g<w.heap.size∧∀(w':World) (i:Nat),(w'.heap[g]?=w.heap[g]?)→i<l.length→w'.cell? ⟨g,o+i*4,none⟩=some (.int .i64 (l.getD i yO.z).1)∧w'.cell? ⟨g,o+i*4+1,none⟩=some (.int .i64 (l.getD i yO.z).2.1)∧w'.cell? ⟨g,o+i*4+2,none⟩=some (.string (l.getD i yO.z).2.2.1)∧w'.cell? ⟨g,o+i*4+3,none⟩=some (.string (l.getD i yO.z).2.2.2):=by
 obtain⟨g,o,c,e,hg,hc⟩:=h.at hl;refine⟨g,o,c,e,hg,fun w' i he hi=>?_⟩;have hw:∀k,w'.cell? ⟨g,k,none⟩=w.cell? ⟨g,k,none⟩:=fun k=>by simp[World.cell?,he]
 refine⟨?_,?_,?_,?_⟩
 ·rw[hw];exact hc i 0 hi (by decide)
 ·rw[hw];exact hc i 1 hi (by decide)
 ·rw[hw];exact hc i 2 hi (by decide)
 ·rw[hw];exact hc i 3 hi (by decide)
