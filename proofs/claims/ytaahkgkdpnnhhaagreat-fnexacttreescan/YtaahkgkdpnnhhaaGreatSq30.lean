import Derived.WideMake
import Derived.Deep.Slices
import Derived.Lib.SmallJoins
import Derived.Test.YtaahkgkdpnnhhaaGreatSq26
import Derived.Test.YtaahkgkdpnnhhaaGreatOpenN
set_option maxHeartbeats 9999999
set_option maxRecDepth 99999
set_option linter.all false
namespace Go.Proofs.YtaahkgkdpnnhhaaGreat
open Go.RowKit Fo
structure Frs(w:World)(n B2 B3 gc:Nat)(cj:List Int)(tv:Value)(j:Nat)(wr:World):Prop where
 b2:IsC wr B2 #[.int .i64 0,.slice none 0 0,.slice none 0 0,.int .i64 0,.int .i64 0,.slice none 0 0,.slice none 0 0] 57
 c:IsC wr gc (y64.row (List.replicate n 0++cj)) 2
 bel:Bl w wr
 ex:∃ag jk,IsC wr B3 #[.int .i64 n,.slice (adr ag) j (j+jk.length),.slice none 0 0,.int .i64 1,.int .i64 1,.slice (some ⟨gc,0,none⟩) n (n+cj.length),tv] 57∧yN.Rw wr ag (List.replicate j nv0) jk∧∀g,ag=some g→w.heap.size≤g
structure FrP(w:World)(n:Nat)(e:Ending)(w':World):Prop where
 ex:∃A,e=.returned (.agg (aL A (aH n)))∧SpV w' A (aH n)∧∃a k c,A.tv=.slice a k c
 bel:Bl w w'
theorem aEB{a:Array Value}{w:World}{B:Nat}{x:Array Value}(h:IsC w B x 57)(hx:x.size=7)(e:a.getD 2 undef=.pointer (some ⟨B,0,none⟩)):(results Tryz.f50 a).run Tryz.prog w=.ok (.agg x) w:=by
 have l:=kG h (by kernel_rfl) (by rw[hx];kernel_rfl);simp only[Array.getD_eq_getD_getElem?]at e;simp[results,Tryz.f50,e,asAddr,l]
theorem zA(n:Nat)(h8:8≤n)(h5:n≤512)(w:World):Calls Tryz.prog 50 #[.int .i64 n] w (FrP w n):=by
 obtain⟨B2,db⟩:=eZ (w.heap.size);obtain⟨w1,bh⟩:=eZ (w.alloc (.cells #[.int .i64 0,.slice none 0 0,.slice none 0 0,.int .i64 0,.int .i64 0,.slice none 0 0,.slice none 0 0] 57));have e1:=bAl bh;have c1:=iNw bh db;go_enter Tryz.func50,Tryz.ntmps50;go_wp2_with fail;refine(pM n h5 w1).mono ?_;rintro e w2 ⟨u,rfl,⟨ag,cj,rfl,d5,ll⟩,ba⟩;obtain⟨gc,rfl⟩:∃g,ag=some g:=by
  cases ag with
  | none=>have e:=(d5.nil rfl).1;have:=congrArg List.length e;rw[List.length_replicate,List.length_nil]at this;omega
  | some g=>exact⟨g,rfl⟩
 have xr:IsC w2 gc (y64.row (List.replicate n 0++cj)) 2:=d5.arr gc rfl;have bp:=ll gc rfl;have lv:=d5.small;rw[List.length_replicate]at lv;simp only[adr,Option.map_some,List.length_replicate];obtain⟨q,hq⟩:=eZ (w2.heap.size);obtain⟨w3,dw⟩:=eZ (w2.alloc (.cells #[.int .i64 3] 2));obtain⟨B3,fk⟩:=eZ (w3.heap.size);obtain⟨w4,cn⟩:=eZ (w3.alloc (.cells #[.int .i64 n,.slice none 0 0,.slice none 0 0,.int .i64 1,.int .i64 1,.slice (some ⟨gc,0,none⟩) n (n+cj.length),.slice (some ⟨q,0,none⟩) 1 1] 57));have b23:=bAl dw;have b34:=bAl cn;have b24:=b23.trans (b34.mono b23.size);have b02:=e1.trans (ba.mono e1.size);have b04:=b02.trans (b24.mono b02.size);have i3:=iNw cn fk;have i2:=(c1.of (ba.block _ c1.lt)).of (b24.block _ (lL c1.lt ba.size));have ic:=xr.of (b24.block _ xr.lt);have n23:B2≠B3:=by have:=c1.lt;have:=ba.size;have:=b23.size;omega
 have l3:w.heap.size≤B3:=by have:=b02.size;have:=b23.size;omega
 have PQ:w.heap.size≤B2:=Nat.le_of_eq db;have qm:Hid (Frs w n B2 B3 gc cj (.slice (some ⟨q,0,none⟩) 1 1) 0 w4):=⟨i2,ic,b04,none,[],i3,⟨fun g e=>(by cases e),fun _=>⟨rfl,rfl⟩,by simp⟩,fun g e=>(by cases e)⟩;have Qn:w.heap.size≤gc:=by have:=e1.size;omega
 clear i2 i3 ic c1 xr d5 ll db;go_wp2;go_loopw [4] (fun i wr=>∃j:Nat,j≤n∧i=.int .i64 j∧Frs w n B2 B3 gc cj (.slice (some ⟨q,0,none⟩) 1 1) j wr) (fun i _=>n -(intOf i).toNat)
 case atStart=>exact⟨0,by omega,rfl,qm.out⟩
 case round=>
  clear qm bh dw cn;obtain⟨j,hj,rfl,hC⟩:=hrel;obtain⟨ag,jk,k3,d5,ll⟩:=hC.ex;have m1:wr.cell? ⟨B3,1,none⟩=some (.slice (adr ag) j (j+jk.length)):=k3.c rfl;by_cases ai:j<n
  ·have dm:(j:Int) <(n:Int):=by omega
   have av:∀g,ag=some g→g≠B2∧g≠B3∧g≠gc:=fun g e=>⟨(d5.arr g e).type_ne hC.b2 (by decide),(d5.arr g e).type_ne k3 (by decide),(d5.arr g e).type_ne hC.c (by decide)⟩;have UQ:Hid (∀(a':Option Nat) (junk':List NV) (w7:World),yN.Rw w7 a' (List.replicate j nv0++[nv0]) junk'→(∀g,a'=some g→ag=some g∨wr.heap.size≤g)→Frm (fun k=>ag=some k) wr w7→(IsC w7 B3 #[.int .i64 n,.slice (adr ag) j (j+jk.length),.slice none 0 0,.int .i64 1,.int .i64 1,.slice (some ⟨gc,0,none⟩) n (n+cj.length),.slice (some ⟨q,0,none⟩) 1 1] 57∧Frs w n B2 B3 gc cj (.slice (some ⟨q,0,none⟩) 1 1) (j+1) (w7.setCell ⟨B3,1,none⟩ (.slice (adr a') (j+1) (j+1+junk'.length))))):=fun a' junk' w7 h1 h2 h3=>by
    have k7:=k3.frm h3 (fun e=>(av _ e).2.1 rfl);have b7:=hC.b2.frm h3 (fun e=>(av _ e).1 rfl);have c7:=hC.c.frm h3 (fun e=>(av _ e).2.2 rfl);have be7:Bl w w7:=hC.bel.trans (h3.below hC.bel.size fun g e=>ll g e);refine⟨k7,b7.set_ne _ n23,c7.set_ne _ (c7.type_ne k7 (by decide)),be7.trans ((bQ _ w7).setCell (p:=⟨B3,1,none⟩) l3 _),a',junk',?_,?_,?_⟩
    ·have:=k7.set 1 (.slice (adr a') (j+1) (j+1+junk'.length))
     simpa using this
    ·have e:List.replicate (j+1) nv0=List.replicate j nv0++[nv0]:=by rw[List.replicate_succ']
     rw[e];exact h1.frm (Frm.set (S:=fun k=>k=B3) w7 (p:=⟨B3,1,none⟩) rfl _) (fun g eg=>(h1.arr g eg).type_ne k7 (by decide))
    ·intro g eg
     rcases h2 g eg with q | q
     ·exact ll g q
     ·have:=hC.bel.size;omega
   have ah:(List.replicate j nv0).length=j:=List.length_replicate;have Lf:yN.Rw wr ag (List.replicate j nv0) jk:=d5;have m1':wr.cell? ⟨B3,1,none⟩=some (.slice (adr ag) (List.replicate j nv0).length ((List.replicate j nv0).length+jk.length)):=by rw[ah];exact m1
   have SY:=aA ah;clear hC k3 d5 ah m1;generalize List.replicate j nv0=zs at *;go_wp2_with (first | (at_builtin;refine yN.wpApp1F rfl _ _ rfl Lf rfl nv0 rfl rfl (by rw[SY.out];omega) ?_;intro a' junk' w7 z1 z2 z3;obtain⟨k7,GV⟩:=UQ.out a' junk' w7 z1 z2 z3;have m7:w7.cell? ⟨B3,1,none⟩=some (.slice (adr ag) j (j+jk.length)):=(k7.c rfl);have f7:=k7.frozen 1;rw[lP,SY.out];clear z1 z2 z3 k7) | go_in);refine⟨⟨j+1,by omega,by go_num,GV⟩,?_⟩;simp[intOf];omega
  ·obtain rfl:j=n:=by omega
   obtain⟨g1,rfl⟩:∃g,ag=some g:=by
    cases ag with
    | none=>have e:=(d5.nil rfl).1;have:=congrArg List.length e;rw[List.length_replicate,List.length_nil]at this;omega
    | some g=>exact⟨g,rfl⟩
   have iv:=ll g1 rfl;have Ey:iX wr g1 (List.replicate j nv0) jk (fun _=>none):=⟨d5.arr g1 rfl,fun b d e=>(by cases e),d5.small⟩;have qu:(List.replicate j nv0).length=j:=List.length_replicate;have MA:NdR wr (1,none,0,0) (1,[]):=⟨rfl,.inl ⟨rfl,rfl⟩,by simp⟩;have y8:=Ey.set2 (q:=2) (by rw[qu];omega) MA;have n13:g1≠B3:=Ey.arr.type_ne k3 (by decide);have n12:g1≠B2:=Ey.arr.type_ne hC.b2 (by decide);have n1c:g1≠gc:=Ey.arr.type_ne hC.c (by decide);have nc3:gc≠B3:=hC.c.type_ne k3 (by decide);have F1:=eC wr g1 2 (1,none,0,0);have x4:wr.cell? ⟨g1,4,none⟩=some (.int .i64 0):=by
    have:=yN.at (List.replicate j nv0++jk) (i:=2) (j:=0) (by simp;omega) (by decide)
    rw[Ey.arr.cell];rw[cM,if_pos (by rw[qu];omega)]at this;have e2:(List.replicate j nv0).getD 2 yN.z=nv0:=by rw[gD,List.getElem?_replicate];split<;>rfl
    rw[e2]at this;exact this
   have x5:wr.cell? ⟨g1,5,none⟩=some (.slice none 0 0):=by
    have:=yN.at (List.replicate j nv0++jk) (i:=2) (j:=1) (by simp;omega) (by decide)
    rw[Ey.arr.cell];rw[cM,if_pos (by rw[qu];omega)]at this;have e2:(List.replicate j nv0).getD 2 yN.z=nv0:=by rw[gD,List.getElem?_replicate];split<;>rfl
    rw[e2]at this;exact this
   have f4:=Ey.arr.frozen 4;have f5:=Ey.arr.frozen 5;have AB:∃W,(wr.setCell ⟨g1,4,none⟩ (.int .i64 1)).setCell ⟨g1,5,none⟩ (.slice none 0 0)=W:=⟨_,rfl⟩;obtain⟨W1,AB⟩:=AB;have LJ:set2 wr g1 2 (1,none,0,0)=W1:=AB;rw[LJ]at y8 F1;have k31:=k3.frm F1 (fun e=>n13 e.symm);have b21:=hC.b2.frm F1 (fun e=>n12 e.symm);have c01:=hC.c.frm F1 (fun e=>n1c e.symm);have be1:Bl w W1:=hC.bel.trans (F1.below hC.bel.size fun g e=>by rw[e];exact iv);obtain⟨gr,bm⟩:=eZ (W1.heap.size);obtain⟨W2,vg⟩:=eZ (W1.alloc (.cells #[.int .i64 0,.int .i64 2] 77));have bw2:=bAl vg;have ir:=iNw vg bm;have k32:=k31.of (bw2.block _ k31.lt);have b22:=b21.of (bw2.block _ b21.lt);have c02:=c01.of (bw2.block _ c01.lt);have sa:=y8.below bw2;have m2:W2.cell? ⟨B3,2,none⟩=some (.slice none 0 0):=k32.c rfl;have z2:=k32.frozen 2;have k33:=k32.set 2 (.slice (some ⟨gr,0,none⟩) 1 1);have F3:Frm (fun k=>k=B3) W2 (W2.setCell ⟨B3,2,none⟩ (.slice (some ⟨gr,0,none⟩) 1 1)):=Frm.set (S:=fun k=>k=B3) W2 (p:=⟨B3,2,none⟩) rfl _;obtain⟨W3,Aq⟩:=eZ (W2.setCell ⟨B3,2,none⟩ (.slice (some ⟨gr,0,none⟩) 1 1));rw[Aq]at k33 F3;have nr3:gr≠B3:=ir.type_ne k32 (by decide);have b23':=b22.frm F3 (fun e=>n23 e);have c03:=c02.frm F3 (fun e=>nc3 e);have ir3:=ir.frm F3 (fun e=>nr3 e);have qz:=sa.frm F3 (fun g cs hg e=>by subst e;exact hg.type_ne k32 (by decide) rfl) (fun e=>n13 e);have R9:(List.replicate j (0:Int)).length=j:=List.length_replicate;have y2:=kJ c03 (i:=2) (by rw[R9];omega);have fz2:=c03.frozen 2;have c04:=oJ c03 (i:=2) (by rw[R9];omega) 1;have F4:Frm (fun k=>k=gc) W3 (W3.setCell ⟨gc,2,none⟩ (.int .i64 1)):=Frm.set (S:=fun k=>k=gc) W3 (p:=⟨gc,2,none⟩) rfl _;obtain⟨W4,In⟩:=eZ (W3.setCell ⟨gc,2,none⟩ (.int .i64 1));rw[In]at c04 F4;have y3:=kJ c04 (i:=3) (by simp;omega);have fz3:=c04.frozen 3;have c05:=oJ c04 (i:=3) (by simp;omega) 1;have F5:Frm (fun k=>k=gc) W4 (W4.setCell ⟨gc,3,none⟩ (.int .i64 1)):=Frm.set (S:=fun k=>k=gc) W4 (p:=⟨gc,3,none⟩) rfl _;obtain⟨W5,Ar⟩:=eZ (W4.setCell ⟨gc,3,none⟩ (.int .i64 1));rw[Ar]at c05 F5;have F45:=F4.trans F5;have k35:=k33.frm F45 (fun e=>nc3 e.symm);have k34:=k33.frm F4 (fun e=>nc3 e.symm);have n2c:B2≠gc:=fun e=>hC.c.type_ne hC.b2 (by decide) e.symm;have b25:=b23'.frm F45 (fun e=>n2c e);have nrc:gr≠gc:=ir3.type_ne c03 (by decide);have ir5:=ir3.frm F45 (fun e=>nrc e);have ix:=qz.frm F45 (fun g cs hg e=>by subst e;exact hg.type_ne c03 (by decide) rfl) (fun e=>n1c e);have be5:Bl w W5:=by
    have q1:=be1.trans (bw2.mono be1.size);have q2:=q1.trans (F3.below q1.size fun g e=>by rw[e];exact l3);exact q2.trans (F45.below q2.size fun g e=>by rw[e];exact Qn)
   have m53:W3.cell? ⟨B3,5,none⟩=some (.slice (some ⟨gc,0,none⟩) j (j+cj.length)):=k33.c rfl;have m54:W4.cell? ⟨B3,5,none⟩=some (.slice (some ⟨gc,0,none⟩) j (j+cj.length)):=k34.c rfl;have eS:((List.replicate j nv0).set 2 (1,none,0,0)).length=j:=by simp
   have au:(((List.replicate j (0:Int)).set 2 1).set 3 1).length=j:=by simp
   have hV:SpV W5 {ga:=g1,ns:=(List.replicate j nv0).set 2 (1,none,0,0),nj:=jk,gr:=gr,rj:=[],cv:=.slice (some ⟨gc,0,none⟩) j (j+cj.length),tv:=.slice (some ⟨q,0,none⟩) 1 1} (aH j):=by
    refine⟨⟨ix.arr,fun b d hd=>?_,ix.small⟩,?_,?_,by simp[aH,maxLen],.inr ⟨gc,0,j+cj.length,((List.replicate j (0:Int)).set 2 1).set 3 1++cj,?_,c05,?_,?_⟩⟩
    ·refine ix.nd b d ?_
     rw[←hd];show upd (fun _=>none) 2 (some (1,[])) b=if b=2 then some (1,[])else none
     rfl
    ·simp[aH]
    ·have:=ir5
     simpa [aH,Ely.row,yT,aT] using this
    ·simp[aH]
    ·simp[aH]
    ·simp[aH]
   have Tb:#[Value.int .i64 j,.slice (some ⟨g1,0,none⟩) j (j+jk.length),.slice (some ⟨gr,0,none⟩) 1 1,.int .i64 1,.int .i64 1,.slice (some ⟨gc,0,none⟩) j (j+cj.length),.slice (some ⟨q,0,none⟩) 1 1]=aL {ga:=g1,ns:=(List.replicate j nv0).set 2 (1,none,0,0),nj:=jk,gr:=gr,rj:=[],cv:=.slice (some ⟨gc,0,none⟩) j (j+cj.length),tv:=.slice (some ⟨q,0,none⟩) 1 1} (aH j):=by
    simp[aL,aH]
   have kx:IsC W5 B3 #[Value.int .i64 j,.slice (some ⟨g1,0,none⟩) j (j+jk.length),.slice (some ⟨gr,0,none⟩) 1 1,.int .i64 1,.int .i64 1,.slice (some ⟨gc,0,none⟩) j (j+cj.length),.slice (some ⟨q,0,none⟩) 1 1] 57:=by simpa [adr] using k35
   have zo:Hid (∀wa:World,Frm (fun k=>k=B2) W5 wa→FrP w j (.returned (.agg #[Value.int .i64 j,.slice (some ⟨g1,0,none⟩) j (j+jk.length),.slice (some ⟨gr,0,none⟩) 1 1,.int .i64 1,.int .i64 1,.slice (some ⟨gc,0,none⟩) j (j+cj.length),.slice (some ⟨q,0,none⟩) 1 1])) wa):=fun wa hF=>by
    rw[Tb];refine⟨⟨_,rfl,?_,⟨_,_,_,rfl⟩⟩,be5.trans (hF.below be5.size fun g e=>by rw[e];exact PQ)⟩;refine hV.frm hF (fun g cs t ht hg e=>?_);subst e;refine hg.type_ne b25 ?_ rfl;rcases ht with e | e | e | e<;>rw[e]<;>decide
   have ff:(#[Value.int .i64 j,.slice (some ⟨g1,0,none⟩) j (j+jk.length),.slice (some ⟨gr,0,none⟩) 1 1,.int .i64 1,.int .i64 1,.slice (some ⟨gc,0,none⟩) j (j+cj.length),.slice (some ⟨q,0,none⟩) 1 1]).all (·.oneCell')=true:=by simp[Value.oneCell']
   have Bw:(#[Value.int .i64 j,.slice (some ⟨g1,0,none⟩) j (j+jk.length),.slice (some ⟨gr,0,none⟩) 1 1,.int .i64 1,.int .i64 1,.slice (some ⟨gc,0,none⟩) j (j+cj.length),.slice (some ⟨q,0,none⟩) 1 1]).size=7:=rfl;generalize (#[Value.int .i64 j,.slice (some ⟨g1,0,none⟩) j (j+jk.length),.slice (some ⟨gr,0,none⟩) 1 1,.int .i64 1,.int .i64 1,.slice (some ⟨gc,0,none⟩) j (j+cj.length),.slice (some ⟨q,0,none⟩) 1 1])=XS at kx zo ff Bw;have N8:(2:Int) <(j:Int):=by omega
   have X4:(3:Int) <(j:Int):=by omega
   have r1:wr.cell? ⟨B3,1,none⟩=some (.slice (some ⟨g1,0,none⟩) j (j+jk.length)):=m1;have KX:=aA kx;have B25:=aA b25;clear Tb hV Ey y8 sa qz ix k3 k31 k32 k33 k34 k35 kx b21 b22 b23' b25 c01 c02 c03 c04 c05 ir ir3 ir5 F1 F3 F4 F5 F45 bw2 be1 be5 hC d5 ll MA LJ m1 qu R9 eS au;generalize (List.replicate j (0:Int)).getD 2 0=v2 at *;generalize ((List.replicate j (0:Int)).set 2 1).getD 3 0=v3 at *;go_upto_region 10 with fail
   refine wp_region_list ?_;refine wpList_plain rfl (fun K2 ae=>?_);refine cK _ rfl B3 KX.out rfl Bw ?_;refine ae _ _ ?_;clear ae K2;simp only[Act.put,sB,sZ,sS];refine wpList_plain rfl (fun K2 ae=>?_);refine aM _ _ _ rfl B2 B25.out rfl rfl Bw (by rw[Bw];kernel_rfl) ff fun wa ja jaF=>?_;refine ae _ _ ?_;clear ae K2;refine wpList_nil ?_;simp only[Act.put,sB,sZ,sS];have UX:=aA (zo.out wa jaF);clear zo jaF;go_wp2;refine bodyPost_ret (v:=.agg XS) (aEB ja Bw rfl) rfl ?_;exact UX.out
structure CmP(w:World)(S:Nat)(f:fZ)(e:Ending)(w':World):Prop where
 ex:∃A' a0 n0 c0 a1 n1 c1 rv,e=.returned (.tuple #[.slice a0 n0 c0,.slice a1 n1 c1,rv,.int .i64 (cR f).2.1])∧((n0:Int)+(n1:Int))=(cR f).2.2.1∧n0≤512∧n1≤512∧Sp w' S A' (cR f).1∧∃a k c,A'.tv=.slice a k c
 frm:Frm (fun k=>k=S) w w'
theorem CmP.bad{w w':World}{S:Nat}{A:SA}{f:fZ}(h:Sp w S A f)(iz:∃a k c,A.tv=.slice a k c){c:Int}(hc:cR f=(f,c,0,.empty))(hb:Bl w w'):CmP w S f (.returned (.tuple #[.slice none 0 0,.slice none 0 0,.slice none 0 0,.int .i64 c])) w':=
 ⟨⟨A,none,0,0,none,0,0,.slice none 0 0,by rw[hc],by rw[hc];rfl,by omega,by omega,by rw[hc];exact h.below hb,iz⟩,Frm.of_below hb⟩
theorem CmP.good{w w3:World}{S:Nat}{A:SA}{f:fZ}(h:Sp w S A f)(hI:Inv f){p:List Int}(hc:cR f=(dM f p,0,(dT f:Int)+(p.length:Int),.empty))(hb:Bl w w3){gc:Nat}{cj:List Int}(Cv:IsC w3 gc (y64.row (bH f.cur p++cj)) 2)(bp:w.heap.size≤gc)(hp:p.length≤512)(a0 a1:Option Addr)(c0 c1:Nat)(rv:Value):
  CmP w S f (.returned (.tuple #[.slice a0 (dT f) c0,.slice a1 p.length c1,rv,.int .i64 0])) (((w3.setCell ⟨S,5,none⟩ (.slice (some ⟨gc,0,none⟩) f.cur.length (f.cur.length+cj.length))).setCell ⟨S,6,none⟩ (.slice a1 p.length c1)).setCell ⟨S,4,none⟩ (.int .i64 (f.gen+1))):=by
 have av:gc≠S:=by have:=h.box.lt;omega
 have bx:=h.box.of (hb.block _ h.box.lt);have k1:=bx.set 5 (.slice (some ⟨gc,0,none⟩) f.cur.length (f.cur.length+cj.length));have k2:=k1.set 6 (.slice a1 p.length c1);have k3:=k2.set 4 (.int .i64 (f.gen+1));have F:Frm (fun k=>k=S) w (((w3.setCell ⟨S,5,none⟩ (.slice (some ⟨gc,0,none⟩) f.cur.length (f.cur.length+cj.length))).setCell ⟨S,6,none⟩ (.slice a1 p.length c1)).setCell ⟨S,4,none⟩ (.int .i64 (f.gen+1))):=
  (((Frm.of_below hb).trans (Frm.set (S:=fun k=>k=S) w3 (p:=⟨S,5,none⟩) rfl _)).trans (Frm.set (S:=fun k=>k=S) _ (p:=⟨S,6,none⟩) rfl _)).trans (Frm.set (S:=fun k=>k=S) _ (p:=⟨S,4,none⟩) rfl _)
 have hv:=h.v.frm F (fun g cs t ht hg e=>by
  subst e;refine hg.type_ne h.box ?_ rfl;rcases ht with e | e | e | e<;>rw[e]<;>decide)
 have Ct:=((Cv.set_ne (p:=⟨S,5,none⟩) (.slice (some ⟨gc,0,none⟩) f.cur.length (f.cur.length+cj.length)) av).set_ne (p:=⟨S,6,none⟩) (.slice a1 p.length c1) av).set_ne (p:=⟨S,4,none⟩) (.int .i64 (f.gen+1)) av;have hd:=uU f;have h5:=hI.ic.n512;refine⟨⟨{A with cv:=.slice (some ⟨gc,0,none⟩) f.cur.length (f.cur.length+cj.length),tv:=.slice a1 p.length c1},a0,dT f,c0,a1,p.length,c1,rv,by rw[hc],by rw[hc],by omega,hp,?_,⟨_,_,_,rfl⟩⟩,F⟩;rw[hc];refine⟨?_,hv.nds,hv.ln,hv.rts,hv.rs,.inr ⟨gc,0,f.cur.length+cj.length,bH f.cur p++cj,?_,Ct,?_,?_⟩⟩
 ·simpa [aL,dM] using k3
 ·show Value.slice _ _ _=_
  have e:(dM f p).com.length=f.cur.length:=iV _ _;rw[e];simp
 ·show 0+(bH f.cur p).length≤_
  simp
 ·show((bH f.cur p++cj).drop 0).take (bH f.cur p).length=_
  simp[dM]
theorem xH(c p:List Int)(j:Nat)(h:j<p.length):bH c (p.take (j+1))=(bH c (p.take j)).set (p.getD j 0).toNat 1:=by
 rw[cC p j 0 h];unfold bH;rw[List.foldl_append];rfl
theorem aDW{f:fZ}{k:Nat}(h:0<cu f k)(h2:co f k=0):(cY f (k+1)).map (fun x:Nat=>(x:Int))=(cY f k).map (fun x:Nat=>(x:Int))++[(k:Int)]:=by
 show(cY f k++if 0<cu f k∧co f k=0 then [k]else []).map _=_
 rw[if_pos ⟨h,h2⟩,List.map_append];rfl
theorem aGJ{f:fZ}{k:Nat}(h:¬(0<cu f k∧co f k=0)):(cY f (k+1)).map (fun x:Nat=>(x:Int))=(cY f k).map (fun x:Nat=>(x:Int)):=by
 show(cY f k++if 0<cu f k∧co f k=0 then [k]else []).map _=_
 rw[if_neg h,List.append_nil]
theorem wO{f:fZ}(hI:Inv f)(w:World)(S:Nat)(A:SA)(h:Sp w S A f)(iz:∃a k c,A.tv=.slice a k c):
  Calls Tryz.prog 51 #[.pointer (some ⟨S,0,none⟩)] w (CmP w S f):=by
 have h8:=hI.ic.n8;have h5:=hI.ic.n512;have Ml:=hI.gn;have TS:=h.box.lt;obtain⟨s0,_,_,_,s4,_,_⟩:=h.cells;have iw:=aA fun(w':World) (c:Int) (hc:cR f=(f,c,0,.empty)) (hb:Bl w w')=>CmP.bad h iz hc hb;by_cases hg:1099511627776≤f.gen
 ·have HC:Hid (cR f=(f,4,0,.empty)):=by unfold cR;rw[if_pos hg];rfl
  go_enter Tryz.func51,Tryz.ntmps51
  go_wp2
  refine bodyPost_ret (v:=.tuple #[.slice none 0 0,.slice none 0 0,.slice none 0 0,.int .i64 4]) (by simp[results,Tryz.results51,go_sem]) rfl ?_;exact iw.out _ _ HC.out (bQ _ _)
 ·go_enter Tryz.func51,Tryz.ntmps51
  go_wp2_with fail
  refine(iD hI.ic (fun x=>by have:=hI.counts x;omega) (fun b d hd=>by have:=hI.ent hd;omega) w S A h (by have:=hI.r16;omega)).mono ?_;rintro r w1 ⟨u,rfl,⟨ag,cj,rfl,d5,ll⟩,ao⟩;obtain⟨gc,rfl⟩:∃g,ag=some g:=by
   cases ag with
   | none=>have e:=(d5.nil rfl).1;rw[e]at h8;simp at h8
   | some g=>exact⟨g,rfl⟩
  have xr:IsC w1 gc (y64.row (f.cur++cj)) 2:=d5.arr gc rfl;have bp:=ll gc rfl;have lv:=d5.small;have h1:=h.below ao;obtain⟨_,_,_,_,_,s5,_⟩:=h1.cells;obtain⟨gm,om,cm,pq,AK,_,xo⟩:=mW h1.v.com (by rw[hI.ic.len];omega);have nk:Nts w1 (.slice (some ⟨gc,0,none⟩) f.cur.length (f.cur.length+cj.length)) f.cur:=Ely.Sl.nts d5.sl (fun i=>by have:=hI.counts i;have e:f.cur.getD i 0=cu f i:=rfl;rw[e];omega);have C0:Nts w1 (.slice (some ⟨gm,om,none⟩) f.com.length cm) f.com:=by
   rw[←pq];exact Ely.Sl.nts h1.v.com (fun i=>by have:=hI.cmr i;have e:f.com.getD i 0=co f i:=rfl;rw[e];omega)
  rw[pq]at s5;have WR:gm<w.heap.size:=by
   rcases h.v.com with⟨e,_⟩ | ⟨g,o,cap,xs,e,k,_⟩
   ·rw[pq]at e;cases e
   ·rw[pq]at e;cases e;exact k.lt
  simp only[adr,Option.map_some];have HL:Hid (f.com.length=f.cur.length):=hI.ic.len;have HZ:=aA xr;have WQ:=xr.lt;have s41:w1.cell? ⟨S,4,none⟩=some (.int .i64 f.gen):=h1.cells.2.2.2.2.1;clear pq d5 ll xr h1;go_wp2_with fail;refine(aBC _ _ _ _ f.cur f.com w1 nk C0 (aCK hI)).mono ?_;rintro e w2 ⟨a0,c0,a1,c1,l0,u0,l1,u1,rfl,q1,q2,q3,q4,_,hP,_,ba⟩;have dz:=ao.trans (ba.mono ao.size);have qf:=sN f.cur f.com;have Si:=aA (qO (zs:=f.cur) (ys:=f.com));have Es:Hid (cR f=if 1099511627776≤f.gen then(f,4,0,.empty)else if plC f.cur f.com≠0 then(f,plC f.cur f.com,0,.empty)else(dM f (plP f.cur f.com),0,(dT f:Int)+((plP f.cur f.com).length:Int),.empty)):=(rfl:cR f=_);obtain⟨pc,wn⟩:=eZ (plC f.cur f.com);obtain⟨p,hp⟩:=eZ (plP f.cur f.com);obtain⟨rs,LG⟩:=eZ (plR f.cur f.com);rw[wn,hp]at Es;rw[hp]at Si qf hP;rw[wn,hp,LG];clear wn hp LG nk C0;by_cases hc:pc=0
  ·subst hc
   have HC:Hid (cR f=(dM f p,0,(dT f:Int)+(p.length:Int),.empty)):=by
    have:=Es.out;rw[if_neg (by omega),if_neg (by simp)]at this;exact this
   have Af:IsC w2 gc (y64.row (f.cur++cj)) 2:=HZ.out.of (ba.block _ HZ.out.lt);have PI:=aA Af;have Mk:=Af.lt;have TG:=aA hP;have ax:∀(w':World),Bl w2 w'→Sp w' S A f:=fun w' hb=>h.below (dz.trans (hb.mono dz.size));have pw:=aA ax;have s02:w2.cell? ⟨S,0,none⟩=some (.int .i64 f.cur.length):=(ax w2 (bQ _ _)).cells.1;have tq:=aA fun(w':World) (k:Nat) (hb:Bl w2 w') (hk:k<f.cur.length)=>xo w' k ((hb.block gm (lL AK ba.size)).trans (ba.block gm AK)) (by rw[HL.out];exact hk);have CB:=aA fun(w':World) (hb:Bl w2 w')=>(hb.cell (p:=⟨S,5,none⟩) (lL TS dz.size)).trans ((ba.cell (p:=⟨S,5,none⟩) (lL TS ao.size)).trans s5);clear ax Af hP xo Es;go_wp2;go_loopw [10,11] (fun d i wr=>∃k:Nat,k≤f.cur.length∧i=.int .i64 k∧y64.Own w2.heap.size wr d ((cY f k).map fun x:Nat=>(x:Int))∧Bl w2 wr) (fun _ i _=>f.cur.length -(intOf i).toNat)
   case atStart=>exact⟨0,by omega,rfl,Ely.Own.lit _ w2 (nR _) _ rfl,(bQ _ w2).alloc (nR _) _⟩
   case round=>
    obtain⟨k,tg,rfl,ap,bx⟩:=hrel;have cy:=pw.out wr bx;have t0:=cy.cells.1;have t5:=CB.out wr bx;by_cases ai:k<f.cur.length
    ·have x0:=kJ (PI.out.of (bx.block _ Mk)) ai
     have x1:=tq.out wr k bx ai;have lq:(k:Int) <(f.cur.length:Int):=by omega
     have EV:(k:Int) <(f.com.length:Int):=by rw[HL.out];omega
     have AZ:=bx.size;have te:((cY f k).map fun x:Nat=>(x:Int)).length<1000000:=by have:=kP f k;simp;omega
     have HY:=aA (aDW (f:=f) (k:=k));have HN:=aA (aGJ (f:=f) (k:=k));unfold cu co at HY HN;generalize f.cur.getD k 0=x at *;generalize f.com.getD k 0=y at *;clear cy pw;by_cases hx:0<x
     ·by_cases hy:y=0
      ·have HD:=aA (HY.out hx hy)
       clear HY HN;go_wp2_with (first | (at_builtin;refine y64.wpApp1 rfl _ _ rfl ap rfl (k:Int) rfl rfl te AZ ?_;intro v' w3 eo di k3) | go_in);rw[←HD.out]at eo;go_roundw
       case rel=>exact⟨k+1,by omega,by go_num,eo,bx.trans di⟩
       case measure=>simp[intOf];omega
      ·have HD:=aA (HN.out (fun q=>hy q.2))
       clear HY HN;rw[←HD.out]at ap;go_wp2;go_roundw
       case rel=>exact⟨k+1,by omega,by go_num,ap,bx⟩
       case measure=>simp[intOf];omega
     ·have HD:=aA (HN.out (fun q=>hx q.1))
      clear HY HN;rw[←HD.out]at ap;go_wp2;go_roundw
      case rel=>exact⟨k+1,by omega,by go_num,ap,bx⟩
      case measure=>simp[intOf];omega
    ·obtain⟨w5,rfl⟩:∃w5,w5=wr:=⟨wr,rfl⟩
     obtain rfl:k=f.cur.length:=by omega
     obtain⟨da,dc,Tj⟩:=ap.sl.len;have Kq:((cY f f.cur.length).map fun x:Nat=>(x:Int)).length=dT f:=by simp[dT]
     rw[Kq]at Tj;subst Tj;have vq:=PI.out.of (bx.block _ Mk);have Sb:=aA (TG.out.below bx);have AZ:=bx.size;have vz:=dz.trans (bx.mono dz.size);clear ap cy pw tq CB t5 TG Kq;go_wp2;go_loopw [12] (fun i w4=>∃j:Nat,j≤p.length∧i=.int .i64 j∧IsC w4 gc (y64.row (bH f.cur (p.take j)++cj)) 2∧Frm (fun k=>k=gc) w5 w4) (fun i _=>p.length -(intOf i).toNat)
     case atStart=>exact⟨0,by omega,rfl,by simpa [bH] using vq,Frm.refl _ _⟩
     case round=>
      obtain⟨j,hj,rfl,i5,jl⟩:=hrel;obtain⟨w4,rfl⟩:∃w4,w4=wr:=⟨wr,rfl⟩;by_cases ai:j<p.length
      ·have TH:=Sb.out.kept (w':=w4) jl.size (fun b ao ba bx=>jl.block b bx (fun e=>by subst e;omega))
       obtain⟨_,_,he,hs⟩:=TH.shape;simp only[Value.slice.injEq,true_and]at he;obtain⟨rfl,rfl⟩:=he;obtain⟨pb,po,rfl,_,_,_,wn⟩:=hs (by omega);have x0:=(wn j ai).1;have Bq:p.getD j 0∈p:=by rw[gD,gE ai];exact List.getElem_mem ai
       have qt:=Si.out _ Bq;have xd:=aA (xH f.cur p j ai);obtain⟨bb,E7⟩:∃bb:Nat,p.getD j 0=(bb:Int):=⟨(p.getD j 0).toNat,by omega⟩;rw[E7]at x0 qt xd;simp only[Int.toNat_natCast]at xd;have au:(bH f.cur (p.take j)).length=f.cur.length:=iV _ _;have sm:bb<f.cur.length:=by omega
       have yb:=kJ i5 (i:=bb) (by rw[au];exact sm);have zb:=i5.frozen bb;have FQ:=aA (oJ i5 (i:=bb) (by rw[au];exact sm) 1);rw[←xd.out]at FQ;have DN:(bb:Int) <(f.cur.length:Int):=by omega
       have dm:(j:Int) <(p.length:Int):=by omega
       generalize (bH f.cur (p.take j)).getD bb 0=cv at *;clear TH hs wn Bq E7 au xd vq i5;go_wp2;go_roundw
       case rel=>exact⟨j+1,by omega,by go_num,FQ.out,jl.trans (Frm.set (S:=fun k=>k=gc) _ (p:=⟨gc,bb,none⟩) rfl _)⟩
       case measure=>simp[intOf];omega
      ·obtain rfl:j=p.length:=by omega
       rw[List.take_of_length_le (nR _)]at i5;have wd:Bl w w4:=vz.trans (jl.below vz.size fun g e=>by rw[e];exact bp);have aw:=h.below wd;obtain⟨_,_,_,_,v4,v5,v6⟩:=aw.cells;have z4:=aw.box.frozen 4;have z5:=aw.box.frozen 5;have z6:=aw.box.frozen 6;have HG:=aA (CmP.good h hI HC.out wd i5 bp qf da a0 dc c0 (.slice a1 rs.length c1));have Qq:=hI.gn;clear i5 aw jl vq Sb HZ PI h wd;go_wp2;refine bodyPost_ret (v:=.tuple #[.slice da (dT f) dc,.slice a0 p.length c0,.slice a1 rs.length c1,.int .i64 0]) (by simp[results,Tryz.results51,go_sem]) rfl ?_;exact HG.out
  ·have HC:Hid (cR f=(f,pc,0,.empty)):=by
    have:=Es.out;rw[if_neg (by omega),if_pos hc]at this;exact this
   clear hP Es;go_wp2;refine bodyPost_ret (v:=.tuple #[.slice none 0 0,.slice none 0 0,.slice none 0 0,.int .i64 pc]) (by simp[results,Tryz.results51,go_sem]) rfl ?_;exact iw.out _ _ HC.out dz
def aKY(o:TO):List Value:=[.int .i64 o.1,.int .i64 o.2.1,.string o.2.2.1,.string o.2.2.2]
def yO:Ely TO where
 cell:=aKY
 n:=4
 z:=(0,0,.empty,.empty)
 zv:=.agg #[.int .i64 0,.int .i64 0,.string .empty,.string .empty]
 t:=63
 s:=27
 by':=48
 hn:=fun _=>rfl
 hp:=by omega
 one:=fun a v hv=>by simp only[aKY,List.mem_cons,List.not_mem_nil,or_false]at hv;rcases hv with rfl | rfl | rfl | rfl<;>rfl
 hz:=by kernel_rfl
 us:=Tryz.underlying27
 hb:=by omega
 info:=rS (by kernel_rfl)
def aCI(a:An):List Value:=[.int .i64 a.1,.int .i64 a.2.1,.string a.2.2]
def yA:Ely An where
 cell:=aCI
 n:=3
 z:=(0,0,.empty)
 zv:=.agg #[.int .i64 0,.int .i64 0,.string .empty]
 t:=92
 s:=46
 by':=32
 hn:=fun _=>rfl
 hp:=by omega
 one:=fun a v hv=>by simp only[aCI,List.mem_cons,List.not_mem_nil,or_false]at hv;rcases hv with rfl | rfl | rfl<;>rfl
 hz:=by kernel_rfl
 us:=Tryz.underlying46
 hb:=by omega
 info:=rS (by kernel_rfl)
theorem Ely.make{α:Type}(Y:Ely α)(n:Nat)(hn:n≤1048576)(w:World):(Instr.makeSlice Y.s (.int .i64 (n:Int)) (.int .i64 (n:Int))).run Tryz.prog w=.ok (.slice (some ⟨w.heap.size,0,none⟩) n n) (w.alloc (.cells (Y.row (List.replicate n Y.z)) Y.t)):=by
 obtain⟨i,hi,hs,X9,hz⟩:=Y.info;have hb:=Y.hb;have E7:(i.bytes:Int)*(n:Int)≤281474976710656:=by
  have h1:i.bytes*n≤64*1048576:=Nat.mul_le_mul (by omega) hn;have h2:((i.bytes*n:Nat):Int)≤((64*1048576:Nat):Int):=by omega
  rw[Int.natCast_mul]at h2;omega
 have hr:=run_make (P:=Tryz.prog) w Y.s Y.t i _ Y.us hi hz .i64 .i64 n n (by omega) (Int.le_refl _) E7 (by omega);simp only[Int.toNat_natCast,hs]at hr;have e:madeCells Y.zv.cells (n*Y.n)=Y.row (List.replicate n Y.z):=by
  have h1:=Y.zeroL n;have h2:Y.zv.cells.size=Y.n:=by rw[Y.hz];simp[Y.hn]
  unfold Builtin.zeroCells at h1;rw[h2]at h1;unfold madeCells;rw[h2];exact h1
 rw[e]at hr;exact hr
theorem Ely.setAt{α:Type}(Y:Ely α){w:World}{g:Nat}{l:List α}(h:IsC w g (Y.row l) Y.t){i:Nat}(hi:i<l.length)(a:α):IsC (w.setCells g (i*Y.n) (Y.cell a)) g (Y.row (l.set i a)) Y.t:=by
 have hl:i*Y.n+(Y.cell a).length≤(l.flatMap Y.cell).length:=by
  rw[Y.hn,Y.len];have:(i+1)*Y.n≤l.length*Y.n:=Nat.mul_le_mul_right _ hi;rw[Nat.succ_mul]at this;exact this
 have:=IsC.sets (Y.cell a) (i*Y.n) h hl
 have e:Go.Proofs.YtaahkgkdpnnhhaaGreat.spl (l.flatMap Y.cell) (i*Y.n) (Y.cell a)=(l.set i a).flatMap Y.cell:=by
  have h1:=Y.spl l [a] i;simp only[List.flatMap_cons,List.flatMap_nil,List.append_nil]at h1;rw[h1];congr 1;unfold Go.Proofs.YtaahkgkdpnnhhaaGreat.spl;rw[List.set_eq_take_append_cons_drop,if_pos hi];simp
 rw[e]at this;exact this
theorem aLE{w:World}{u:Value}{l:List TO}(h:yO.Sl w u l)(hl:0<l.length):∃g o c,u=.slice (some ⟨g,o,none⟩) l.length c∧g<w.heap.size∧∀(w':World) (i:Nat),(w'.heap[g]?=w.heap[g]?)→i<l.length→w'.cell? ⟨g,o+i*4,none⟩=some (.int .i64 (l.getD i yO.z).1)∧w'.cell? ⟨g,o+i*4+1,none⟩=some (.int .i64 (l.getD i yO.z).2.1)∧w'.cell? ⟨g,o+i*4+2,none⟩=some (.string (l.getD i yO.z).2.2.1)∧w'.cell? ⟨g,o+i*4+3,none⟩=some (.string (l.getD i yO.z).2.2.2):=by
 obtain⟨g,o,c,e,hg,hc⟩:=h.at hl;refine⟨g,o,c,e,hg,fun w' i he hi=>?_⟩;have hw:∀k,w'.cell? ⟨g,k,none⟩=w.cell? ⟨g,k,none⟩:=fun k=>by simp[World.cell?,he]
 refine⟨?_,?_,?_,?_⟩
 ·rw[hw];exact hc i 0 hi (by decide)
 ·rw[hw];exact hc i 1 hi (by decide)
 ·rw[hw];exact hc i 2 hi (by decide)
 ·rw[hw];exact hc i 3 hi (by decide)
def z7:Array Value:=#[.int .i64 0,.slice none 0 0,.slice none 0 0,.int .i64 0,.int .i64 0,.slice none 0 0,.slice none 0 0]
theorem aLK(W:World):(Instr.build 57 #[]).run Tryz.prog W=.ok (.agg z7) W:=by kernel_rfl
theorem buildA01'(W:World)(c v:Int):(Instr.build 92 #[(0,.int .i64 c),(1,.int .i64 v)]).run Tryz.prog W=.ok (.agg #[.int .i64 c,.int .i64 v,.string .empty]) W:=by kernel_rfl
theorem pB{a:Array Value}{w:World}{B:Nat}{x:Array Value}{v5 v6:Value}(h:IsC w B x 57)(hx:x.size=7)(e:a.getD 4 undef=.pointer (some ⟨B,0,none⟩))(e5:a.getD 5 undef=v5)(e6:a.getD 6 undef=v6):(results Tryz.f32 a).run Tryz.prog w=.ok (.tuple #[.agg x,v5,v6]) w:=by
 have l:=kG h (by kernel_rfl) (by rw[hx];kernel_rfl);simp only[Array.getD_eq_getD_getElem?]at e e5 e6;simp[results,Tryz.f32,e,e5,e6,asAddr,l]
theorem Ely.Own.frm'{α:Type}{Y:Ely α}{S:Nat→Prop}{base:Nat}{w w':World}{u:Value}{l:List α}(h:Y.Own base w u l)(k:Frm S w w')(hS:∀g,base≤g→g<w.heap.size→¬S g):Y.Own base w' u l:=by
 obtain⟨a,junk,e,hr,hb⟩:=h;exact⟨a,junk,e,hr.frm k (fun g eg=>hS g (hb g eg) (hr.arr g eg).lt),hb⟩
structure RuP(w:World)(n:Int)(ops:List TO)(e:Ending)(w':World):Prop where
 dev:inB n 8 512=false→e=.returned (.tuple #[.agg z7,.slice none 0 0,.int .i64 1])
 lim:inB n 8 512=true→2000<ops.length→e=.returned (.tuple #[.agg z7,.slice none 0 0,.int .i64 4])
 ok:inB n 8 512=true→ops.length≤2000→∃A u,e=.returned (.tuple #[.agg (aL A (jO (aH n.toNat) ops)),u,.int .i64 0])∧SpV w' A (jO (aH n.toNat) ops)∧(∃a k c,A.tv=.slice a k c)∧yA.Own w.heap.size w' u (iQ (aH n.toNat) ops)
 bel:Bl w w'
structure RuI(w:World)(f0:fZ)(ops:List TO)(B4 B7 base k:Nat)(u:Value)(wr:World):Prop where
 b4:IsC wr B4 z7 57
 sp:∃A,Sp wr B7 A (jO f0 (ops.take k))∧∃a k c,A.tv=.slice a k c
 own:yA.Own base wr u (iQ f0 (ops.take k))
 bel:Bl w wr
 sz:base≤wr.heap.size
theorem RuI.next{w W5 w7:World}{f0 g:fZ}{ops:List TO}{B4 B7 base k:Nat}{u:Value}{A:SA}(h4:IsC W5 B4 z7 57)(jf:Sp W5 B7 A g)(hg:jO f0 (ops.take k)=g)(iz:∃a k c,A.tv=.slice a k c)(hb:Bl w W5)(bd:base≤W5.heap.size)(ho:yA.Own base w7 u (iQ f0 (ops.take k)))(hF:Frm (fun k=>base≤k∧∃cs,IsC W5 k cs yA.t) W5 w7)(ll:w.heap.size≤base):RuI w f0 ops B4 B7 base k u w7:=by
 have no:∀{g cs t},IsC W5 g cs t→t≠92→¬(base≤g∧∃cs,IsC W5 g cs yA.t):=fun {g cs t} h1 h2 h3=>by
  obtain⟨cs',h4⟩:=h3.2;exact h1.type_ne h4 h2 rfl
 refine⟨h4.frm hF (no h4 (by decide)),⟨A,?_,iz⟩,ho,hb.trans (hF.below hb.size fun g q=>by omega),lT bd hF.size⟩;rw[hg];exact⟨jf.box.frm hF (no jf.box (by decide)),jf.v.frm hF (fun g cs t ht hg=>no hg (by rcases ht with e | e | e | e<;>rw[e]<;>decide))⟩
theorem aEL(n:Int)(ops:List TO)(v:Value)(w:World)(hv:yO.Sl w v ops)(hl:ops.length≤1048576):Calls Tryz.prog 32 #[.int .i64 n,v] w (RuP w n ops):=by
 have DO:=aLK;have X8:=buildA01';have LP:z7.size=7:=rfl;have Ho:z7.all (·.oneCell')=true:=by simp[z7,Value.oneCell']
 obtain⟨va,vc,ig⟩:=hv.len;obtain⟨B4,dq⟩:=eZ (w.heap.size);obtain⟨w1,bh⟩:=eZ (w.alloc (.cells #[.int .i64 0,.slice none 0 0,.slice none 0 0,.int .i64 0,.int .i64 0,.slice none 0 0,.slice none 0 0] 57));have b1:=bAl bh;have c1:=iNw bh dq;have HV:=aA (aI hv ig);subst ig;clear hv;go_enter Tryz.func32,Tryz.ntmps32;go_wp2_with fail;refine(iJ n w1).mono ?_;rintro e w1' ⟨rfl,rfl⟩;cases jm:inB n 8 512 with
 | false=>
  have qi:=aA jm;clear jm;go_upto_region 2 with fail
  refine wp_region_list ?_;refine wpList_plain rfl (fun K2 ae=>?_);go_simp;refine ae _ _ ?_;clear ae K2;try simp only[Act.put,sB,sZ,sS]
  refine wpList_plain rfl (fun K2 ae=>?_);refine aM _ _ _ rfl B4 c1 rfl rfl LP (by kernel_rfl) Ho fun wa ja jaF=>?_;refine ae _ _ ?_;clear ae K2;have HF:Hid (RuP w n ops (.returned (.tuple #[.agg z7,.slice none 0 0,.int .i64 1])) wa):=⟨fun _=>rfl,fun q=>(by rw[qi.out]at q;cases q),fun q=>(by rw[qi.out]at q;cases q),b1.trans (jaF.below b1.size fun g q=>by rw[q];omega)⟩;clear jaF;try simp only[Act.put,sB,sZ,sS]
  refine wpList_plain rfl (fun K2 ae=>?_);go_simp;refine ae _ _ ?_;clear ae K2;refine wpList_plain rfl (fun K2 ae=>?_);go_simp;refine ae _ _ ?_;clear ae K2;refine wpList_nil ?_;go_wp2;refine bodyPost_ret (v:=.tuple #[.agg z7,.slice none 0 0,.int .i64 1]) (pB ja LP rfl rfl rfl) rfl ?_;exact HF.out
 | true=>
  have qi:=aA jm;by_cases h2:2000<ops.length
  ·have N8:(2000:Int) <(ops.length:Int):=by omega
   clear jm;go_upto_region 4 with fail
   refine wp_region_list ?_;refine wpList_plain rfl (fun K2 ae=>?_);go_simp;refine ae _ _ ?_;clear ae K2;try simp only[Act.put,sB,sZ,sS]
   refine wpList_plain rfl (fun K2 ae=>?_);refine aM _ _ _ rfl B4 c1 rfl rfl LP (by kernel_rfl) Ho fun wa ja jaF=>?_;refine ae _ _ ?_;clear ae K2;have HF:Hid (RuP w n ops (.returned (.tuple #[.agg z7,.slice none 0 0,.int .i64 4])) wa):=⟨fun q=>(by rw[qi.out]at q;cases q),fun _ _=>rfl,fun _ q=>absurd q (by omega),b1.trans (jaF.below b1.size fun g q=>by rw[q];omega)⟩;clear jaF;try simp only[Act.put,sB,sZ,sS]
   refine wpList_plain rfl (fun K2 ae=>?_);go_simp;refine ae _ _ ?_;clear ae K2;refine wpList_plain rfl (fun K2 ae=>?_);go_simp;refine ae _ _ ?_;clear ae K2;refine wpList_nil ?_;go_wp2;refine bodyPost_ret (v:=.tuple #[.agg z7,.slice none 0 0,.int .i64 4]) (pB ja LP rfl rfl rfl) rfl ?_;exact HF.out
  ·have N8:¬(2000:Int) <(ops.length:Int):=by omega
   have Av:8≤n∧n≤512:=by unfold inB at jm;simpa using jm
   obtain⟨N,hN⟩:∃N:Nat,n=(N:Int):=⟨n.toNat,by omega⟩;have O4:Hid (n.toNat=N):=(show n.toNat=N by omega);subst hN;clear jm;have Pe:=Inv.fresh (n:=N) (by omega) (by omega);have Il:=tK N;go_upto_region 5 with fail
   refine wp_region_list ?_;refine wpList_plain rfl (fun K2 ae=>?_);go_simp;refine ae _ _ ?_;clear ae K2;refine wpList_plain rfl (fun K2 ae=>?_);go_simp;refine(zA N (by omega) (by omega) w1).mono ?_;rintro e w2 ⟨⟨A0,rfl,MM,NW⟩,ba⟩;refine ae _ _ ?_;clear ae K2;have EY:=dN MM NW;have C4:=cX A0 (aH N);obtain⟨X0,OL⟩:=eZ (aL A0 (aH N));rw[OL]at EY C4;rw[OL];obtain⟨w3,dw⟩:=eZ (w2.alloc (.cells #[.int .i64 0,.slice none 0 0,.slice none 0 0,.int .i64 0,.int .i64 0,.slice none 0 0,.slice none 0 0] 57));obtain⟨B7,FV⟩:=eZ (w2.heap.size);have i7:=iNw dw FV;have bx:=bAl dw;refine wpList_plain rfl (fun K2 ae=>?_);go_simp;refine ae _ _ ?_;clear ae K2;refine wpList_plain rfl (fun K2 ae=>?_);refine aM _ _ _ rfl B7 i7 rfl rfl (C4.trans LP.symm) (by rw[C4];kernel_rfl) EY fun w4 j7 jF=>?_;have Iy:Bl w2 w4:=bx.trans (jF.below bx.size fun k e=>by omega);have xj:=ba.trans (Iy.mono ba.size);have wd:=b1.trans (xj.mono b1.size);have i4:IsC w4 B4 z7 57:=c1.of (xj.block _ c1.lt);have Co:Sp w4 B7 A0 (aH N):=⟨by rw[OL];exact j7,MM.below Iy⟩;have PT:w.heap.size≤B7∧B4<B7:=by have:=b1.size;have:=ba.size;have:=c1.lt;omega
   refine ae _ _ ?_;clear ae K2 j7 jF i7 dw bh bx Iy c1 OL EY C4;refine wpList_nil ?_;try simp only[Act.put,sB,sZ,sS]
   obtain⟨base,Gi⟩:=eZ (w4.heap.size);obtain⟨w5,sf⟩:=eZ (w4.alloc (.cells #[] 92));have et:=bAl sf;have qm:Hid (RuI w (aH N) ops B4 B7 base 0 (.slice (some ⟨base,0,none⟩) 0 0) w5):=⟨i4.of (et.block _ i4.lt),⟨A0,Co.below et,NW⟩,by rw[←sf];exact Ely.Own.lit (Y:=yA) base w4 (Nat.le_of_eq Gi.symm) base Gi.symm,wd.trans (et.mono wd.size),by have:=et.size;omega⟩;have lm:w.heap.size≤base∧B7<base:=by have:=wd.size;have:=Co.box.lt;omega
   clear Co i4 MM et xj ba;go_wp2;go_loopw [8,9] (fun u i wr=>∃k:Nat,k≤ops.length∧i=.int .i64 k∧RuI w (aH N) ops B4 B7 base k u wr) (fun _ i _=>ops.length -(intOf i).toNat)
   case atStart=>exact⟨0,by omega,rfl,qm.out⟩
   case round=>
    clear qm sf;obtain⟨k,hk,rfl,hC⟩:=hrel;obtain⟨A,jf,iz⟩:=hC.sp;by_cases ai:k<ops.length
    ·obtain⟨g,o,cc,ig,qp,aa⟩:=aLE HV.out.1 (by omega)
     simp only[Value.slice.injEq,true_and]at ig;obtain⟨rfl,rfl⟩:=ig;have lq:(k:Int) <(ops.length:Int):=by omega
     have vn:=rV Pe Il (ops.take k);obtain⟨s1,s2⟩:=zT (aH N) (ops.take k) (ops.getD k yO.z);rw[←cC ops k yO.z ai]at s1 s2;have Kl:(iQ (aH N) (ops.take k)).length<1000000:=by rw[lF,List.length_take];omega
     have ox:=aA s1;have pw:=aA s2;obtain⟨⟨kind,tree,key,val⟩,GE⟩:∃x,ops.getD k yO.z=x:=⟨_,rfl⟩;rw[GE]at ox pw;have tq:Hid (∀wq:World,Bl w wq→wq.cell? ⟨g,o+k*4,none⟩=some (.int .i64 kind)∧wq.cell? ⟨g,o+k*4+1,none⟩=some (.int .i64 tree)∧wq.cell? ⟨g,o+k*4+2,none⟩=some (.string key)∧wq.cell? ⟨g,o+k*4+3,none⟩=some (.string val)):=fun wq hb=>by
      have:=aa wq k (hb.block g qp) ai
      rw[GE]at this;exact this
     obtain⟨B10,IE⟩:=eZ (wr.heap.size);obtain⟨wa,LO⟩:=eZ (wr.alloc (.cells #[.int .i64 0,.int .i64 0,.string {data:=#[]}] 92));have we:=bAl LO;have ia:=iNw LO IE;have So:=hC.b4.of (we.block _ hC.b4.lt);have MJ:=jf.below we;have TF:=hC.own;have xl:Bl w wa:=hC.bel.trans (we.mono hC.bel.size);have Su:base≤B10:=by have:=hC.sz;omega
     obtain⟨x0,x1,x2,x3⟩:=tq.out wa xl;have JA:base≤wa.heap.size:=lT hC.sz we.size;have LY:=aA So;have mm:=aA MJ;have O5:=aA TF;have Ch:=vn.inv;have MN:=vn.ve;obtain⟨F,hF⟩:=eZ (jO (aH N) (ops.take k));rw[hF]at ox pw Ch MN mm;have FO:=aA mm.out.box;clear aa vn s1 s2 hC jf So MJ TF hF GE;obtain⟨lA,Mu⟩:=eZ (iQ (aH N) (ops.take k));rw[Mu]at pw O5 Kl;clear Mu;by_cases h5:kind=5
     ·subst h5
      have HD:Hid (doM F 5 tree key val=cR F):=by unfold doM;rw[if_pos rfl];rfl
      rw[HD.out]at ox pw;go_wp2_with fail;refine(wO Ch wa B7 A mm.out iz).mono ?_;rintro e wb ⟨⟨A',a0,n0,c0,a1,n1,c1,rv,rfl,yr,M2,nk,Ih,GK⟩,Dj⟩;have AU:B10≠B7:=by omega
      have ib:=ia.frm Dj (fun e=>AU e);have Sq:=LY.out.frm Dj (fun e=>by omega);have xm:Bl w wb:=xl.trans (Dj.below xl.size fun g e=>by rw[e];exact PT.1);have V6:base≤wb.heap.size:=lT JA Dj.size;have y0:wb.cell? ⟨B10,0,none⟩=some (.int .i64 0):=ib.c rfl;have y1:wb.cell? ⟨B10,1,none⟩=some (.int .i64 0):=ib.c rfl;have y2:wb.cell? ⟨B10,2,none⟩=some (.string {data:=#[]}):=ib.c rfl;have q0:=ib.frozen 0;have q1:=ib.frozen 1;have q2:=ib.frozen 2;obtain⟨cd,sx⟩:=eZ ((cR F).2.1);have Ht:Hid ((cR F).2=(cd,(n0:Int)+(n1:Int),{data:=#[]})):=by
       rw[←sx,yr];show(cR F).2=((cR F).2.1,(cR F).2.2.1,{data:=#[]})
       have:(cR F).2.2.2=({data:=#[]}:ByteArray):=by unfold cR;split;rfl;split<;>rfl
       rw[←this]
      rw[sx];have FW:=fB wb B10 (.int .i64 cd) (.int .i64 ((n0:Int)+(n1:Int))) (.string {data:=#[]});obtain⟨W5,Ar⟩:=eZ (((wb.setCell ⟨B10,0,none⟩ (.int .i64 cd)).setCell ⟨B10,1,none⟩ (.int .i64 ((n0:Int)+(n1:Int)))).setCell ⟨B10,2,none⟩ (.string {data:=#[]}));have iW:=((ib.set 0 (.int .i64 cd)).set 1 (.int .i64 ((n0:Int)+(n1:Int)))).set 2 (.string {data:=#[]});rw[Ar]at FW iW;have u0:W5.cell? ⟨B10,0,none⟩=some (.int .i64 cd):=iW.c rfl;have u1:W5.cell? ⟨B10,1,none⟩=some (.int .i64 ((n0:Int)+(n1:Int))):=iW.c rfl;have u2:W5.cell? ⟨B10,2,none⟩=some (.string {data:=#[]}):=iW.c rfl;have Lm:=Sq.frm FW (fun e=>by omega);have Du:Sp W5 B7 A' (cR F).1:=⟨Ih.box.frm FW (fun e=>AU e.symm),Ih.v.frm FW (fun g cs t ht hg e=>by
       subst e;refine hg.type_ne ib ?_ rfl;rcases ht with e | e | e | e<;>rw[e]<;>decide)⟩
      have F5:Frm (fun k=>k=B7∨k=B10) wr W5:=((Frm.of_below we).trans (Dj.wide fun _ _ q=>.inl q)).trans (FW.wide fun _ _ q=>.inr q);have Fg:=O5.out.frm' F5 (fun g iv oa e=>by omega);have et:Bl w W5:=xm.trans (FW.below xm.size fun g e=>by rw[e];omega);have EF:base≤W5.heap.size:=lT JA (lT Dj.size FW.size);have DE:=aA (aI Lm (aI Du (aI GK et)));have Ld:Hid (jO (aH N) (ops.take (k+1))=(cR F).1):=ox.out;have Et:Hid (iQ (aH N) (ops.take (k+1))=lA++[(cd,(n0:Int)+(n1:Int),{data:=#[]})]):=by have:=pw.out;rw[Ht.out]at this;exact this
      clear Lm Du F5 FW iW Sq Ih ib Dj ox pw Ht HD LY mm FO yr;go_wp2_with (first | (at_builtin;refine yA.wpApp1 rfl _ _ rfl Fg rfl (cd,(n0:Int)+(n1:Int),{data:=#[]}) rfl rfl Kl EF ?_;intro v' w7 eo di k5;have xd:=aA (RuI.next DE.out.1 DE.out.2.1 Ld.out DE.out.2.2.1 DE.out.2.2.2 EF (by rw[Et.out];exact eo) k5 lm.1);clear eo di k5 Fg) | go_in);go_roundw
      case rel=>exact⟨k+1,by omega,by go_num,xd.out⟩
      case measure=>simp[intOf];omega
     ·have HD:Hid (doM F kind tree key val=opM F kind tree key val):=by unfold doM;rw[if_neg h5];rfl
      rw[HD.out]at ox pw;have ff:=dN mm.out.v iz;have yo:=cX A F;have H2:=aA fun(wz:World) (hz:Bl wa wz)=>aHH Ch MN kind tree key val h5 wz A (mm.out.v.below hz) iz;obtain⟨XS,vh⟩:=eZ (aL A F);rw[vh]at ff yo H2 FO;have am:IsC wa.drew B7 XS 57∧wa.drew.cell? ⟨g,o+k*4,none⟩=some (.int .i64 kind)∧wa.drew.cell? ⟨g,o+k*4+1,none⟩=some (.int .i64 tree)∧wa.drew.cell? ⟨g,o+k*4+2,none⟩=some (.string key)∧wa.drew.cell? ⟨g,o+k*4+3,none⟩=some (.string val):=⟨FO.out.drew,x0,x1,x2,x3⟩;go_upto_region 14 with fail
      refine pU (fun W=>IsC W B7 XS 57∧W.cell? ⟨g,o+k*4,none⟩=some (.int .i64 kind)∧W.cell? ⟨g,o+k*4+1,none⟩=some (.int .i64 tree)∧W.cell? ⟨g,o+k*4+2,none⟩=some (.string key)∧W.cell? ⟨g,o+k*4+3,none⟩=some (.string val)) 7 (by kernel_rfl) ?_;refine cT (i:=0) 52 (.agg XS) (by kernel_rfl) (by kernel_rfl) rfl (by kernel_rfl) (by kernel_rfl) (by kernel_rfl) (fun _ _ _ h=>h) rfl rfl am (fun w' hw=>lG _ _ rfl B7 hw.1 rfl (by kernel_rfl) (by rw[yo];kernel_rfl)) ?_;simp only[Act.put,sB,sZ,sS];refine cT (i:=1) 53 (.slice (some ⟨g,o,none⟩) ops.length vc) (by kernel_rfl) (by kernel_rfl) rfl (by kernel_rfl) (by kernel_rfl) (by kernel_rfl) (fun _ _ _ h=>h) rfl rfl am (fun w' hw=>by obtain⟨_,m1,m2,m3,m4⟩:=hw;go_simp;try rfl) ?_;simp only[Act.put,sB,sZ,sS];refine cT (i:=2) 54 (.int .i64 k) (by kernel_rfl) (by kernel_rfl) rfl (by kernel_rfl) (by kernel_rfl) (by kernel_rfl) (fun _ _ _ h=>h) rfl rfl am (fun w' hw=>by obtain⟨_,m1,m2,m3,m4⟩:=hw;go_simp;try rfl) ?_;simp only[Act.put,sB,sZ,sS];refine cT (i:=3) 55 (.pointer (some ⟨g,o+k*4,none⟩)) (by kernel_rfl) (by kernel_rfl) rfl (by kernel_rfl) (by kernel_rfl) (by kernel_rfl) (fun _ _ _ h=>h) rfl rfl am (fun w' hw=>by obtain⟨_,m1,m2,m3,m4⟩:=hw;go_simp;try rfl) ?_;simp only[Act.put,sB,sZ,sS];refine cT (i:=4) 56 (.agg #[.int .i64 kind,.int .i64 tree,.string key,.string val]) (by kernel_rfl) (by kernel_rfl) rfl (by kernel_rfl) (by kernel_rfl) (by kernel_rfl) (fun _ _ _ h=>h) rfl rfl am (fun w' hw=>by obtain⟨_,m1,m2,m3,m4⟩:=hw;go_simp;try rfl) ?_;simp only[Act.put,sB,sZ,sS];refine iO (i:=5) (by kernel_rfl) rfl rfl (fun K2 ae=>?_);go_simp;refine(H2.out wa.drew (bQ _ _).drew).mono ?_;rintro e wb ⟨⟨A',rfl,Ie,GK⟩,E7⟩;have AF:Bl wa wb:=(bQ wa.heap.size wa).drew.trans E7;have xm:=xl.trans (AF.mono xl.size);have FX:=FO.out.of (AF.block _ FO.out.lt);have Hb:IsC wb B7 XS 57∧wb.cell? ⟨g,o+k*4,none⟩=some (.int .i64 kind)∧wb.cell? ⟨g,o+k*4+1,none⟩=some (.int .i64 tree)∧wb.cell? ⟨g,o+k*4+2,none⟩=some (.string key)∧wb.cell? ⟨g,o+k*4+3,none⟩=some (.string val):=⟨FX,tq.out wb xm⟩;have Gz:=dN Ie GK;have Eh:=cX A' (opM F kind tree key val).1;have Kb:=aA Ie;obtain⟨X',OK⟩:=eZ (aL A' (opM F kind tree key val).1);rw[OK]at Gz Eh;rw[OK];obtain⟨⟨cd,vl,st⟩,han⟩:∃x,(opM F kind tree key val).2=x:=⟨_,rfl⟩;have Ht:=aA han;rw[han];simp only[bN];refine ae _ _ (fun _=>Hb) ?_;clear ae K2 Ie;refine iO (i:=6) (by kernel_rfl) rfl rfl (fun K2 ae=>?_);go_simp;refine ae _ _ (fun _=>Hb) ?_;clear ae K2;refine tP (i:=7) 58 (.agg X') (by omega) rfl (by kernel_rfl) (by kernel_rfl) (by kernel_rfl) (fun _ _ _ h=>h) rfl rfl (fun w'=>by go_simp;try rfl) ?_;simp only[Act.put,sB,sZ,sS];refine tP (i:=8) 59 (.agg #[.int .i64 cd,.int .i64 vl,.string st]) (by omega) rfl (by kernel_rfl) (by kernel_rfl) (by kernel_rfl) (fun _ _ _ h=>h) rfl rfl (fun w'=>by go_simp;try rfl) ?_;simp only[Act.put,sB,sZ,sS];refine iO (i:=9) (by kernel_rfl) rfl rfl (fun K2 ae=>?_);refine aM _ _ _ rfl B7 FX rfl rfl (Eh.trans yo.symm) (by rw[Eh];kernel_rfl) Gz fun wc jc jcF=>?_;refine ae _ _ (fun q=>absurd q (by omega)) ?_;clear ae K2;have AU:B10≠B7:=by omega
      have ic:=(ia.of (AF.block _ ia.lt)).frm jcF (fun e=>AU e);refine iO (i:=10) (by kernel_rfl) rfl rfl (fun K2 ae=>?_);refine aM (vs:=#[.int .i64 cd,.int .i64 vl,.string st]) _ _ _ rfl B10 ic rfl rfl rfl (by kernel_rfl) (by simp[Value.oneCell']) fun W5 iW FW=>?_;refine ae _ _ (fun q=>absurd q (by omega)) ?_;clear ae K2;refine pT (by kernel_rfl) ?_ _;have u0:W5.cell? ⟨B10,0,none⟩=some (.int .i64 cd):=iW.c rfl;have u1:W5.cell? ⟨B10,1,none⟩=some (.int .i64 vl):=iW.c rfl;have u2:W5.cell? ⟨B10,2,none⟩=some (.string st):=iW.c rfl;have Kg:Frm (fun k=>k=B7∨k=B10) wb W5:=(jcF.wide fun _ _ q=>.inl q).trans (FW.wide fun _ _ q=>.inr q);have Lm:=(LY.out.of (AF.block _ LY.out.lt)).frm Kg (fun e=>by omega);have Du:Sp W5 B7 A' (opM F kind tree key val).1:=⟨by rw[OK];exact jc.frm FW (fun e=>AU e.symm),Kb.out.frm Kg (fun g cs t ht hg e=>by
       rcases e with e | e
       ·subst e
        refine hg.type_ne FX ?_ rfl;rcases ht with e | e | e | e<;>rw[e]<;>decide
       ·subst e
        refine hg.type_ne (ia.of (AF.block _ ia.lt)) ?_ rfl;rcases ht with e | e | e | e<;>rw[e]<;>decide)⟩
      have F5:Frm (fun k=>k=B7∨k=B10) wr W5:=((Frm.of_below we).trans (Frm.of_below AF)).trans Kg;have Fg:=O5.out.frm' F5 (fun g iv oa e=>by omega);have et:Bl w W5:=xm.trans (Kg.below xm.size fun g e=>by omega);have EF:base≤W5.heap.size:=lT JA (lT AF.size Kg.size);have DE:=aA (aI Lm (aI Du (aI GK et)));have Ld:Hid (jO (aH N) (ops.take (k+1))=(opM F kind tree key val).1):=ox.out;have Et:Hid (iQ (aH N) (ops.take (k+1))=lA++[(cd,vl,st)]):=by have:=pw.out;rw[Ht.out]at this;exact this
      clear Lm Du F5 FW iW jc jcF Kg FX Hb ic ox pw Ht HD LY mm FO Kb H2 han OK vh am E7 AF;go_wp2_with (first | (at_builtin;refine yA.wpApp1 rfl _ _ rfl Fg rfl (cd,vl,st) rfl rfl Kl EF ?_;intro v' w7 eo di k5;have xd:=aA (RuI.next DE.out.1 DE.out.2.1 Ld.out DE.out.2.2.1 DE.out.2.2.2 EF (by rw[Et.out];exact eo) k5 lm.1);clear eo di k5 Fg) | go_in);go_roundw
      case rel=>exact⟨k+1,by omega,by go_num,xd.out⟩
      case measure=>simp[intOf];omega
    ·obtain rfl:k=ops.length:=by omega
     have lq:¬((ops.length:Nat):Int) <((ops.length:Nat):Int):=by omega
     have ff:=dN jf.v iz;have yo:=cX A (jO (aH N) (ops.take ops.length));have FO:=aA jf.box;have UT:=aA hC.b4;have zo:Hid (∀wz:World,Frm (fun k=>k=B4) wr wz→RuP w (N:Int) ops (.returned (.tuple #[.agg (aL A (jO (aH N) (ops.take ops.length))),u8,.int .i64 0])) wz):=fun wz hF=>by
      refine⟨fun q=>(by rw[qi.out]at q;cases q),fun _ q=>absurd q h2,fun _ _=>?_,hC.bel.trans (hF.below hC.bel.size fun g e=>by rw[e];omega)⟩;rw[O4.out];have e:ops.take ops.length=ops:=List.take_of_length_le (nR _);refine⟨A,u8,by rw[e],?_,iz,?_⟩
      ·have:=jf.v.frm hF (fun g cs t ht hg e=>by
        subst e;refine hg.type_ne hC.b4 ?_ rfl;rcases ht with e | e | e | e<;>rw[e]<;>decide)
       rw[e]at this;exact this
      ·have:=hC.own.frm' hF (fun g h1 _ e=>by omega)
       rw[e]at this;exact this.base lm.1
     generalize aL A (jO (aH N) (ops.take ops.length))=XS at ff yo FO zo;clear hC jf;go_upto_region 16 with fail
     refine wp_region_list ?_;refine wpList_plain rfl (fun K2 ae=>?_);refine cK _ rfl B7 FO.out rfl yo ?_;refine ae _ _ ?_;clear ae K2;try simp only[Act.put,sB,sZ,sS]
     refine wpList_plain rfl (fun K2 ae=>?_);go_simp;refine ae _ _ ?_;clear ae K2;try simp only[Act.put,sB,sZ,sS]
     refine wpList_plain rfl (fun K2 ae=>?_);refine aM _ _ _ rfl B4 UT.out rfl rfl (yo.trans LP.symm) (by rw[yo];kernel_rfl) ff fun wz jz jzF=>?_;refine ae _ _ ?_;clear ae K2;try simp only[Act.put,sB,sZ,sS]
     have HF:=aA (zo.out wz jzF);clear zo jzF;refine wpList_plain rfl (fun K2 ae=>?_);go_simp;refine ae _ _ ?_;clear ae K2;refine wpList_plain rfl (fun K2 ae=>?_);go_simp;refine ae _ _ ?_;clear ae K2;refine wpList_nil ?_;go_wp2;refine bodyPost_ret (v:=.tuple #[.agg XS,u8,.int .i64 0]) (pB jz yo rfl rfl rfl) rfl ?_;exact HF.out
def Is(B:Nat)(w:World)(r:Nat)(cs:Array Value)(t:TypeId):Prop:=B≤r∧w.heap[r]?=some (.cells cs t (0,0))
def aIU(w:World)(m p:Nat):Prop:=(∃es c,w.heap[m]?=some (.map es c))∧dP w m (upd (fun _=>none) 2 (some p))
def FF(B n:Nat)(w:World)(t:Nat→Value)(l5:Bool):Nat→Prop
 | 0=>t 4=.agg #[.int .i64 0,.int .i64 2]
 | 1=>∃r,t 5=.slice (some ⟨r,0,none⟩) 1 1∧Is B w r #[.int .i64 0,.int .i64 2] 77
 | 2=>∃m,t 6=.map (some m)∧B≤m∧(∃es c,w.heap[m]?=some (.map es c))∧(l5=false→w.heap[m]?=some (.map #[] 0))
 | 3=>t 7=.agg #[.int .i64 1,.slice none 0 0]
 | 4=>∃p,t 8=.pointer (some ⟨p,0,none⟩)∧Is B w p #[.int .i64 1,.slice none 0 0] 108
 | 5=>∃m p,t 6=.map (some m)∧t 8=.pointer (some ⟨p,0,none⟩)∧aIU w m p
 | 6=>t 9=t 6
 | 7=>t 10=.int .i64 n
 | 8=>∃c,t 11=.slice (some ⟨c,0,none⟩) n n∧Is B w c (dD (List.replicate n 0)) 2
 | 9=>t 12=.int .i64 n
 | 10=>∃d,t 13=.slice (some ⟨d,0,none⟩) n n∧Is B w d (dD (List.replicate n 0)) 2
 | 11=>∃q,t 14=.slice (some ⟨q,0,none⟩) 1 1∧Is B w q #[.int .i64 3] 2
 | 12=>t 15=.agg #[t 5,.int .i64 1,.int .i64 1,t 9,t 11,t 13,t 14,.slice none 0 0]
 | 13=>∃f cs,t 15=.agg cs∧t 16=.pointer (some ⟨f,0,none⟩)∧Is B w f cs 71
 | 14=>t 3=t 16
 | _=>True
def fR:List (List Nat):=[[4],[5],[6],[7],[8],[6,8],[9,6],[10],[11],[12],[13],[14],[15,5,9,11,13,14],[15,16],[3,16]]
def KpZ(w w':World)(ok:Prop):Prop:=(∀(g:Nat) cs t fr,w.heap[g]?=some (Obj.cells cs t fr)→w'.heap[g]?=some (Obj.cells cs t fr))∧(∀(g:Nat) es c,w.heap[g]?=some (Obj.map es c)→∃es c,w'.heap[g]?=some (Obj.map es c))∧(ok→∀(g:Nat) es c,w.heap[g]?=some (Obj.map es c)→w'.heap[g]?=some (Obj.map es c))
theorem KpZ.below{w w':World}(h:Bl w w'):KpZ w w' True:=
 ⟨fun g _ _ _ e=>(h.block g (Array.getElem?_eq_some_iff.1 e).1).trans e,fun g es c e=>⟨es,c,(h.block g (Array.getElem?_eq_some_iff.1 e).1).trans e⟩,fun _ g _ _ e=>(h.block g (Array.getElem?_eq_some_iff.1 e).1).trans e⟩
theorem FF.keep{B n:Nat}{w w':World}{t t':Nat→Value}{l l':Bool}{k:Nat}(h:FF B n w t l k)(hl:l'=false→l=false∧True)(hs:∀s∈fR.getD k [],t' s=t s)(hk:KpZ w w' (k=5∨l'=false)):FF B n w' t' l' k:=by
 obtain⟨k1,k2,k3⟩:=hk;match k with
 | 0=>exact(hs 4 (by simp[fR])).trans h
 | 1=>obtain⟨r,e,h1,h2⟩:=h;exact⟨r,(hs 5 (by simp[fR])).trans e,h1,k1 _ _ _ _ h2⟩
 | 2=>obtain⟨m,e,h1,⟨es,c,h2⟩,h3⟩:=h;exact⟨m,(hs 6 (by simp[fR])).trans e,h1,k2 _ _ _ h2,fun hf=>k3 (.inr hf) _ _ _ (h3 (hl hf).1)⟩
 | 3=>exact(hs 7 (by simp[fR])).trans h
 | 4=>obtain⟨r,e,h1,h2⟩:=h;exact⟨r,(hs 8 (by simp[fR])).trans e,h1,k1 _ _ _ _ h2⟩
 | 5=>obtain⟨m,p,e1,e2,⟨es,c,h1⟩,h2⟩:=h;exact⟨m,p,(hs 6 (by simp[fR])).trans e1,(hs 8 (by simp[fR])).trans e2,⟨es,c,k3 (.inl rfl) _ _ _ h1⟩,h2.of ((k3 (.inl rfl) _ _ _ h1).trans h1.symm)⟩
 | 6=>exact((hs 9 (by simp[fR])).trans h).trans (hs 6 (by simp[fR])).symm
 | 7=>exact(hs 10 (by simp[fR])).trans h
 | 8=>obtain⟨r,e,h1,h2⟩:=h;exact⟨r,(hs 11 (by simp[fR])).trans e,h1,k1 _ _ _ _ h2⟩
 | 9=>exact(hs 12 (by simp[fR])).trans h
 | 10=>obtain⟨r,e,h1,h2⟩:=h;exact⟨r,(hs 13 (by simp[fR])).trans e,h1,k1 _ _ _ _ h2⟩
 | 11=>obtain⟨r,e,h1,h2⟩:=h;exact⟨r,(hs 14 (by simp[fR])).trans e,h1,k1 _ _ _ _ h2⟩
 | 12=>
  have h':t 15=.agg #[t 5,.int .i64 1,.int .i64 1,t 9,t 11,t 13,t 14,.slice none 0 0]:=h;show t' 15=.agg #[t' 5,.int .i64 1,.int .i64 1,t' 9,t' 11,t' 13,t' 14,.slice none 0 0]
  rw[hs 15 (by simp[fR]),hs 5 (by simp[fR]),hs 9 (by simp[fR]),hs 11 (by simp[fR]),hs 13 (by simp[fR]),hs 14 (by simp[fR])];exact h'
 | 13=>obtain⟨f,cs,e1,e2,h1,h2⟩:=h;exact⟨f,cs,(hs 15 (by simp[fR])).trans e1,(hs 16 (by simp[fR])).trans e2,h1,k1 _ _ _ _ h2⟩
 | 14=>exact((hs 3 (by simp[fR])).trans h).trans (hs 16 (by simp[fR])).symm
 | k+15=>trivial
structure FI(w0:World)(n:Nat)(l:Array Bool)(a:Act)(w:World):Prop where
 size:a.tmps.size=33
 defers:a.defers=[]
 arg:a.tmps.getD 0 undef=.int .i64 n
 below:Bl w0 w
 facts:∀k,l.getD k false=true→FF w0.heap.size n w (fun s=>a.tmps.getD s undef) (l.getD 5 false) k
 apart:l.getD 8 false=true→l.getD 10 false=true→a.tmps.getD 11 undef≠a.tmps.getD 13 undef
def aGO(ops:Array Oper):Bool:=(List.range 15).all fun k=>(fR.getD k []).all fun s=>(List.range 15).all fun i=>i == k || (((ops[i]?).bind (·.dst)) != some s) || (((ops[k]?).map fun o=>o.after.toList.any fun e=>Region.binds .any e && e.on == i).getD false)
theorem aJQ{ops:Array Oper}(hd:aGO ops=true){l:Array Bool}(au:aIS .any ops l){i k:Nat}(hi:i<15)(hk:k<15)(hl:l.getD k false=true)(hn:l.getD i false=false){o:Oper}(ho:ops[i]?=some o){s:Nat}(hs:s∈fR.getD k []):o.dst≠some s:=by
 intro he;have lq:i≠k:=fun e=>by subst e;rw[hl]at hn;cases hn
 have h1:=List.all_eq_true.1 hd k (List.mem_range.2 hk);have h2:=List.all_eq_true.1 h1 s hs;have h3:=List.all_eq_true.1 h2 i (List.mem_range.2 hi);rw[ho]at h3;simp only[Option.bind_some,he,bne_self_eq_false,Bool.or_false,Bool.or_eq_true,beq_iff_eq]at h3;rcases h3 with h3 | h3
 ·exact lq h3
 ·cases kf:ops[k]? with
  | none=>simp[kf]at h3
  | some ok=>
   simp only[kf,Option.map_some,Option.getD_some,List.any_eq_true,Bool.and_eq_true,beq_iff_eq]at h3;obtain⟨e,EO,vj,JY⟩:=h3;have:=au k hl ok kf e (by simpa using EO) vj;rw[JY,hn]at this;cases this
theorem aKJ(a:Act)(d s:Nat)(v:Value)(h:d<a.tmps.size):(a.put (some d) v).tmps.getD s undef=if s=d then v else a.tmps.getD s undef:=by
 simp only[Act.put,Array.getD_eq_getD_getElem?,Array.getElem?_setIfInBounds];by_cases e:d=s
 ·subst e;simp[h]
 ·rw[if_neg e,if_neg (Ne.symm e)]
theorem FI.next{w0:World}{n:Nat}{l:Array Bool}{a:Act}{w:World}(h:FI w0 n l a w){ops:Array Oper}(hd:aGO ops=true)(au:aIS .any ops l){i:Nat}{o:Oper}(ho:ops[i]?=some o)(hi:i<15)(Jy:l.size=15)(yi:l.getD i false=false)(h5:i≠5)
  (d:Nat) (Ww:o.dst=some d) (WE:d<33) (QZ:d≠0) (v:Value) (w':World) (hb:Bl w w')
  (hf:FF w0.heap.size n w' (fun s=>if s=d then v else a.tmps.getD s undef) (l.getD 5 false) i)
  (q8:(l.setIfInBounds i true).getD 8 false=true→(l.setIfInBounds i true).getD 10 false=true→(if 11=d then v else a.tmps.getD 11 undef)≠(if 13=d then v else a.tmps.getD 13 undef)):
  FI w0 n (l.setIfInBounds i true) (a.put (some d) v) w':=by
 have bd:=h.size;have hg:=fun s=>aKJ a d s v (by omega);have e5:(l.setIfInBounds i true).getD 5 false=l.getD 5 false:=getD_set_ne false h5;refine⟨by simp[Act.put,bd],h.defers,?_,h.below.trans (hb.mono h.below.size),fun k hk=>?_,fun h8 fj=>?_⟩
 ·rw[hg,if_neg (Ne.symm QZ)];exact h.arg
 ·rw[e5]
  by_cases lq:i=k
  ·subst lq
   have:(fun s=>(a.put (some d) v).tmps.getD s undef)=fun s=>if s=d then v else a.tmps.getD s undef:=funext hg
   rw[this];exact hf
  ·rw[getD_set_ne false lq]at hk
   have RD:k<15:=by
    by_cases hh:k<15
    ·exact hh
    ·simp[Array.getElem?_eq_none (show l.size≤k by omega)]at hk
   refine(h.facts k hk).keep (fun e=>⟨e,trivial⟩) (fun s hs=>?_) ⟨(KpZ.below hb).1,(KpZ.below hb).2.1,fun _=>(KpZ.below hb).2.2 trivial⟩;have:=aJQ hd au hi RD hk yi ho hs;rw[hg,if_neg (fun e=>this (by rw[e];exact Ww))]
 ·rw[hg,hg];exact q8 h8 fj
theorem FI.apart_keep{w0:World}{n:Nat}{l:Array Bool}{a:Act}{w:World}(h:FI w0 n l a w)(i d:Nat)(v:Value)(h8:i≠8)(fj:i≠10)(d11:11≠d)(d13:13≠d):
  (l.setIfInBounds i true).getD 8 false=true→(l.setIfInBounds i true).getD 10 false=true→(if 11=d then v else a.tmps.getD 11 undef)≠(if 13=d then v else a.tmps.getD 13 undef):=by
 rw[getD_set_ne false h8,getD_set_ne false fj,if_neg d11,if_neg d13];exact h.apart
theorem FI.ins{w0:World}{n:Nat}{l:Array Bool}{a:Act}{w:World}(h:FI w0 n l a w){ops:Array Oper}(Jy:l.size=15)(yi:l.getD 5 false=false)(w':World)(m p:Nat)
  (hm:a.tmps.getD 6 undef=.map (some m)) (hp:a.tmps.getD 8 undef=.pointer (some ⟨p,0,none⟩)) (hB:w0.heap.size≤m) (hN:aIU w' m p) (hu:Upd m (m+1) w w') (he:w.heap[m]?=some (.map #[] 0)):
  FI w0 n (l.setIfInBounds 5 true) a w':=by
 have CV:m<w.heap.size:=(Array.getElem?_eq_some_iff.1 he).1;have e5:(l.setIfInBounds 5 true).getD 5 false=true:=by simp[Jy]
 have kp:KpZ w w' False:=by
  refine⟨fun g cs t fr hg=>?_,fun g es c hg=>?_,fun hf=>hf.elim⟩
  ·have av:g≠m:=fun e=>by subst e;rw[he]at hg;cases hg
   exact(hu.block g (Array.getElem?_eq_some_iff.1 hg).1 (by omega)).trans hg
  ·by_cases e:g=m
   ·subst e;obtain⟨⟨es,c,h1⟩,_⟩:=hN;exact⟨es,c,h1⟩
   ·exact⟨es,c,(hu.block g (Array.getElem?_eq_some_iff.1 hg).1 (by omega)).trans hg⟩
 refine⟨h.size,h.defers,h.arg,h.below.trans (hu.below hB h.below.size),fun k hk=>?_,fun h8 fj=>?_⟩
 ·rw[e5]
  by_cases lq:5=k
  ·subst lq;exact⟨m,p,hm,hp,hN⟩
  ·rw[getD_set_ne false lq]at hk
   exact(h.facts k hk).keep (fun e=>by cases e) (fun s _=>rfl) ⟨kp.1,kp.2.1,fun e=>by rcases e with e | e;exact absurd e.symm lq;cases e⟩
 ·rw[getD_set_ne false (show(5:Nat)≠8 by omega)]at h8
  rw[getD_set_ne false (show(5:Nat)≠10 by omega)]at fj;exact h.apart h8 fj
theorem map_none{w:World}{m:Nat}(he:w.heap[m]?=some (.map #[] 0)):dP w m (fun _=>none):=by
 refine⟨.map [],⟨#[],0,he,⟨by simp,MapKept.stamped_empty 0,by simp⟩,by simp[Maps.size],rfl⟩,?_,fun b _=>rfl,fun b _=>rfl⟩;have z:∀n,cQ n (fun b=>if((fun _=>none:Nat→Option Nat) b).isSome then 1 else 0)=0:=fun n=>by
  induction n with
  | zero=>rfl
  | succ n ih=>simp only[cQ];rw[ih];rfl
 exact(z 512).symm
theorem aJZ{w:World}{m p:Nat}(he:w.heap[m]?=some (.map #[] 0)):
  ∃w',(Instr.mapUpdate 68 (.map (some m)) (.int .i64 2) (.pointer (some ⟨p,0,none⟩))).run Tryz.prog w=.ok () w'∧aIU w' m p∧Upd m (m+1) w w':=by
 obtain⟨w',hr,hM,hF⟩:=(map_none he).put 2 p (by omega);refine⟨w',hr,⟨?_,hM⟩,⟨hF.os,hF.tape,hF.output,hF.size,fun k hk hn=>hF.block k hk (by omega)⟩⟩
 ·obtain⟨D,⟨es,c,h1,_⟩,_⟩:=hM
  exact⟨es,c,h1⟩
def RdL(w:World)(v:Value)(l:List TO):Prop:=∃a c,v=.slice a l.length c∧(0<l.length→∃g o,a=some ⟨g,o,none⟩∧g<w.heap.size∧∀i,i<l.length→w.cell? ⟨g,o+i*4,none⟩=some (.int .i64 (l.getD i yO.z).1)∧w.cell? ⟨g,o+i*4+1,none⟩=some (.int .i64 (l.getD i yO.z).2.1)∧w.cell? ⟨g,o+i*4+2,none⟩=some (.string (l.getD i yO.z).2.2.1)∧w.cell? ⟨g,o+i*4+3,none⟩=some (.string (l.getD i yO.z).2.2.2))
theorem RdL.len{w:World}{v:Value}{l:List TO}(h:RdL w v l):∃a c,v=.slice a l.length c:=by
 obtain⟨a,c,e,_⟩:=h;exact⟨a,c,e⟩
theorem RdL.below{w w':World}{v:Value}{l:List TO}(h:RdL w v l)(k:Bl w w'):RdL w' v l:=by
 obtain⟨a,c,e,hc⟩:=h;refine⟨a,c,e,fun hl=>?_⟩;obtain⟨g,o,e2,hg,hx⟩:=hc hl;refine⟨g,o,e2,lL hg k.size,fun i hi=>?_⟩;have hw:∀q,w'.cell? ⟨g,q,none⟩=w.cell? ⟨g,q,none⟩:=fun q=>k.cell (p:=⟨g,q,none⟩) hg;rw[hw,hw,hw,hw];exact hx i hi
def eJ{α:Type}(Y:Ely α)(lo hi:Nat)(w:World)(v:Value)(l:List α):Prop:=
 (v=.slice none 0 0∧l=[])∨∃g cap pre post,v=.slice (some ⟨g,pre.length*Y.n,none⟩) l.length cap∧lo≤g∧g<hi∧IsC w g (Y.row (pre++l++post)) Y.t
section
variable {α : Type} {Y : Ely α} {lo hi lo' ak : Nat} {w w' : World} {v : Value} {l : List α}
theorem eJ.sl(h:eJ Y lo hi w v l):Y.Sl w v l:=by
 rcases h with⟨e,h⟩ | ⟨g,cap,pre,post,e,_,_,h⟩
 ·exact .inl ⟨e,h⟩
 ·exact .inr ⟨g,pre.length,cap,pre++l++post,e,h,by simp,by simp[List.append_assoc]⟩
theorem eJ.len(h:eJ Y lo hi w v l):∃a c,v=.slice a l.length c:=h.sl.len
theorem eJ.kept(h:eJ Y lo hi w v l)(k:∀b,lo≤b→b<hi→b<w.heap.size→w'.heap[b]?=w.heap[b]?):eJ Y lo hi w' v l:=by
 rcases h with h | ⟨g,cap,pre,post,e,h1,h2,h⟩
 ·exact .inl h
 ·exact .inr ⟨g,cap,pre,post,e,h1,h2,h.of (k g h1 h2 h.lt)⟩
theorem eJ.below(h:eJ Y lo hi w v l)(k:Bl w w'):eJ Y lo hi w' v l:=h.kept fun b _ _ hb=>k.block b hb
theorem eJ.upd(h:eJ Y lo hi w v l)(k:Upd lo' ak w w')(hd:hi≤lo'∨ak≤lo):eJ Y lo hi w' v l:=h.kept fun b h1 h2 hb=>k.block b hb (by omega)
theorem eJ.wide(h:eJ Y lo hi w v l)(h1:lo'≤lo)(h2:hi≤ak):eJ Y lo' ak w v l:=by
 rcases h with h | ⟨g,cap,pre,post,e,q1,q2,h⟩
 ·exact .inl h
 ·exact .inr ⟨g,cap,pre,post,e,by omega,by omega,h⟩
theorem Ely.Own.yown(h:Y.Own lo w v l):eJ Y lo w.heap.size w v l:=by
 obtain⟨a,junk,e,hr,hb⟩:=h;cases a with
 | none=>obtain⟨rfl,rfl⟩:=hr.nil rfl;exact .inl ⟨e,rfl⟩
 | some g=>exact .inr ⟨g,l.length+junk.length,[],junk,by rw[e];simp[adr],hb g rfl,(hr.arr g rfl).lt,by simpa using hr.arr g rfl⟩
end
theorem aDA{α:Type}(pre l post:List α)(j:Nat)(hj:j<l.length)(a:α):(pre++l++post).set (pre.length+j) a=pre++l.set j a++post:=by
 rw[List.append_assoc,List.set_append_right _ _ (by omega),show pre.length+j-pre.length=j by omega,List.set_append_left _ _ hj,List.append_assoc]
theorem wT{α:Type}(pre l post:List α)(j:Nat)(hj:j<l.length)(z:α):(pre++l++post).getD (pre.length+j) z=l.getD j z:=by
 simp only[gD];rw[List.append_assoc,List.getElem?_append_right (by omega),show pre.length+j-pre.length=j by omega,List.getElem?_append_left hj]
theorem Ely.mid{α:Type}(Y:Ely α){w:World}{g:Nat}{pre l post:List α}(h:IsC w g (Y.row (pre++l++post)) Y.t){j f:Nat}(hj:j<l.length)(hf:f<Y.n):w.cell? ⟨g,pre.length*Y.n+j*Y.n+f,none⟩=(Y.cell (l.getD j Y.z))[f]?:=by
 rw[h.cell,←Nat.add_mul];have:=Y.at (pre++l++post) (i:=pre.length+j) (j:=f) (by simp;omega) hf;rw[this,wT pre l post j hj]
theorem Ely.set1{α:Type}(Y:Ely α)(L:List α){i f:Nat}(hi:i<L.length)(hf:f<Y.n)(v:Value)(a':α)(hc:Y.cell a'=(Y.cell (L.getD i Y.z)).set f v):(Y.row L).setIfInBounds (i*Y.n+f) v=Y.row (L.set i a'):=by
 have hp:=Y.hp;apply Array.ext_getElem?;intro p;by_cases qf:p<L.length*Y.n
 ·have he:p / Y.n<L.length:=Nat.div_lt_of_lt_mul (by rw[Nat.mul_comm];exact qf)
  have hr:p % Y.n<Y.n:=Nat.mod_lt _ hp;have h1:=Y.at L (i:=p / Y.n) (j:=p % Y.n) he hr;have h2:=Y.at (L.set i a') (i:=p / Y.n) (j:=p % Y.n) (by simpa using he) hr;rw[Nat.div_add_mod']at h1 h2;rw[h2,Array.getElem?_setIfInBounds];by_cases ei:p / Y.n=i
  ·have hg:(L.set i a').getD (p / Y.n) Y.z=a':=by rw[ei];simp[hi]
   rw[hg,hc];by_cases ef:p % Y.n=f
   ·have:i*Y.n+f=p:=by rw[←ei,←ef];exact Nat.div_add_mod' p Y.n
    rw[if_pos this,ef,List.getElem?_set_self (by rw[Y.hn];exact hf)];simp[Y.size];omega
   ·have:¬i*Y.n+f=p:=fun q=>ef (by rw[←q,Nat.mul_add_mod_self_right,Nat.mod_eq_of_lt hf])
    rw[if_neg this,h1,ei,List.getElem?_set_ne (Ne.symm ef)]
  ·have hg:(L.set i a').getD (p / Y.n) Y.z=L.getD (p / Y.n) Y.z:=by
    simp only[gD,List.getElem?_set_ne (Ne.symm ei)]
   have:¬i*Y.n+f=p:=fun q=>ei (by rw[←q,Nat.mul_comm,Nat.mul_add_div hp,Nat.div_eq_of_lt hf,Nat.add_zero])
   rw[hg,if_neg this,h1]
 ·rw[Array.getElem?_eq_none (by simp[Y.size];omega),Array.getElem?_eq_none (by rw[Y.size,List.length_set];omega)]
structure SzP(w:World)(e:Ending)(w':World):Prop where
 ex:∃r:Int,e=.returned (.int .i64 r)∧r≤1048576∧-9223372036854775808≤r
 bel:Bl w w'
structure aMX(w:World)(n:Nat)(e:Ending)(w':World):Prop where
 ex:∃r:Int,e=.returned (.int .i64 r)∧(0≤r→n≤1048576)
 bel:Bl w w'
theorem xM(o:TO)(L:Int)(w:World)(h0:0≤L∧L≤1048576)(h1:o.2.2.1.size≤9223372036854775807)(h2:o.2.2.2.size≤9223372036854775807):
  Calls Tryz.prog 31 #[.agg #[.int .i64 o.1,.int .i64 o.2.1,.string o.2.2.1,.string o.2.2.2],.int .i64 L] w (SzP w):=by
 obtain⟨kind,tree,key,val⟩:=o;simp only at h1 h2 ⊢;obtain⟨pb,qt⟩:=eZ (w.heap.size);obtain⟨w1,bh⟩:=eZ (w.alloc (.cells #[.int .i64 kind,.int .i64 tree,.string key,.string val] 53));have B1:=bAl bh;have k1:=iNw bh qt;have e2:w1.cell? ⟨pb,2,none⟩=some (.string key):=k1.c rfl;have e3:w1.cell? ⟨pb,3,none⟩=some (.string val):=k1.c rfl;by_cases q1:L -(key.size:Int)<0
 ·go_enter Tryz.func31,Tryz.ntmps31
  go_wp2
  refine bodyPost_ret (v:=.int .i64 (-1)) (by simp[results,Tryz.results31,go_sem]) rfl ?_;exact⟨⟨-1,rfl,by omega,by omega⟩,B1⟩
 ·by_cases q2:L -(key.size:Int) -(val.size:Int)<0
  ·go_enter Tryz.func31,Tryz.ntmps31
   go_wp2
   refine bodyPost_ret (v:=.int .i64 (-1)) (by simp[results,Tryz.results31,go_sem]) rfl ?_;exact⟨⟨-1,rfl,by omega,by omega⟩,B1⟩
  ·go_enter Tryz.func31,Tryz.ntmps31
   go_wp2
   refine bodyPost_ret (v:=.int .i64 (L -(key.size:Int) -(val.size:Int))) (by simp[results,Tryz.results31,go_sem]) rfl ?_;exact⟨⟨_,rfl,by omega,by omega⟩,B1⟩
theorem aLD{w:World}{u:Value}{l:List TO}(h:RdL w u l)(hl:0<l.length):∃g o c,u=.slice (some ⟨g,o,none⟩) l.length c∧g<w.heap.size∧∀(w':World) (i:Nat),(w'.heap[g]?=w.heap[g]?)→i<l.length→w'.cell? ⟨g,o+i*4,none⟩=some (.int .i64 (l.getD i yO.z).1)∧w'.cell? ⟨g,o+i*4+1,none⟩=some (.int .i64 (l.getD i yO.z).2.1)∧w'.cell? ⟨g,o+i*4+2,none⟩=some (.string (l.getD i yO.z).2.2.1)∧w'.cell? ⟨g,o+i*4+3,none⟩=some (.string (l.getD i yO.z).2.2.2):=by
 obtain⟨a,c,e,hc⟩:=h;obtain⟨g,o,rfl,hg,hx⟩:=hc hl;refine⟨g,o,c,e,hg,fun w' i he hi=>?_⟩;have hw:∀k,w'.cell? ⟨g,k,none⟩=w.cell? ⟨g,k,none⟩:=fun k=>by simp[World.cell?,he]
 rw[hw,hw,hw,hw];exact hx i hi
theorem uL(l:List TO)(v:Value)(w:World)(hv:RdL w v l)(hm:l.length≤9223372036854775807)(hz:∀o∈l,o.2.2.1.size≤9223372036854775807∧o.2.2.2.size≤9223372036854775807):
  Calls Tryz.prog 7 #[v,.int .i64 1048576] w (aMX w l.length):=by
 obtain⟨va,vc,ig⟩:=hv.len;have HV:=aA (aI hv ig);subst ig;clear hv;by_cases h0:l.length≤1048576
 ·have PL:¬(1048576 -(l.length:Int))<0:=by omega
  go_enter Tryz.func7,Tryz.ntmps7
  go_wp2
  go_loopw [1,5] (fun L i wr=>∃(k:Nat) (q:Int),k≤l.length∧i=.int .i64 k∧L=.int .i64 q∧0≤q∧q≤1048576∧Bl w wr) (fun _ i _=>l.length -(intOf i).toNat)
  case atStart=>exact⟨0,_,by omega,rfl,rfl,by omega,by omega,bQ _ _⟩
  case round=>
   obtain⟨k,q,hk,rfl,rfl,am,rh,hb⟩:=hrel;by_cases ai:k<l.length
   ·obtain⟨g,o,cc,ig,qp,aa⟩:=aLD HV.out.1 (by omega)
    simp only[Value.slice.injEq,true_and]at ig;obtain⟨rfl,rfl⟩:=ig;have lq:(k:Int) <(l.length:Int):=by omega
    obtain⟨x0,x1,x2,x3⟩:=aa wr k (hb.block g qp) ai;have SB:=hz (l.getD k yO.z) (by rw[gD,gE ai];exact List.getElem_mem ai);have lh:=aA (xM (l.getD k yO.z) q wr ⟨am,rh⟩ SB.1 SB.2);generalize l.getD k yO.z=op at *;obtain⟨kind,tree,key,val⟩:=op;simp only at x0 x1 x2 x3 lh;clear aa SB;go_wp2_with fail;refine lh.out.mono ?_;rintro e w2 ⟨⟨r,rfl,yl,ph⟩,ba⟩;have dz:=hb.trans (ba.mono hb.size);by_cases hr:r<0
    ·go_wp2
     refine bodyPost_ret (v:=.int .i64 (-1)) (by simp[results,Tryz.results7,go_sem]) rfl ?_;exact⟨⟨-1,rfl,fun _=>h0⟩,dz⟩
    ·go_wp2
     go_roundw
     case rel=>exact⟨k+1,r,by omega,by go_num,rfl,by omega,by omega,dz⟩
     case measure=>simp[intOf];omega
   ·have lq:¬(k:Int) <(l.length:Int):=by omega
    go_wp2
    refine bodyPost_ret (v:=.int .i64 q) (by simp[results,Tryz.results7,go_sem]) rfl ?_;exact⟨⟨q,rfl,fun _=>h0⟩,hb⟩
 ·have PL:(1048576 -(l.length:Int))<0:=by omega
  go_enter Tryz.func7,Tryz.ntmps7
  go_wp2
  refine bodyPost_ret (v:=.int .i64 (-1)) (by simp[results,Tryz.results7,go_sem]) rfl ?_;exact⟨⟨-1,rfl,fun q=>absurd q (by omega)⟩,bQ _ _⟩
end Go.Proofs.YtaahkgkdpnnhhaaGreat
namespace Go.Proofs.YtaahkgkdpnnhhaaGreat
open Go.ChangeShapes Go.WideShapes Go.ChangeAt Go.RowKit Go.Deep Go.Joins
variable{base:Nat}{H:Type}{enc:TypeId×Value→H}{w:World}
theorem aJE:Tryz.prog.cellsOf 53=4:=by kernel_rfl
theorem vZ:Tryz.prog.cellsOf 2=1:=by kernel_rfl
theorem qK:Tryz.prog.cellsOf 9=1:=by kernel_rfl
theorem zM{fuel:Nat}{cs:List Value}{y:DataW H×List MemPlace}(h:DataW.trod enc Tryz.prog w base (fun _=>true) true fuel 22 cs=some y):
  ∃a cap rs,cs=[.slice a (List.length rs) cap]∧rs.length≤9223372036854775807∧RdL w (.slice a rs.length cap) rs∧∀o∈rs,o.2.2.1.size≤9223372036854775807∧o.2.2.2.size≤9223372036854775807:=by
 rcases open_slice Tryz.underlying22 h with⟨iN,_⟩ | ⟨a,len,cap,m,n,D,Pl,rfl,hb,hl,hm,K8,_,hx⟩
 ·exact⟨none,0,[],iN,by simp,⟨_,_,rfl,fun h=>by simp at h⟩,by simp⟩
 ·have CV:m=cap:=by simpa using K8
  have each:∀i,i<len→∃p:TO,(p.2.2.1.size≤9223372036854775807∧p.2.2.2.size≤9223372036854775807)∧w.cell? (a.add (i*4))=some (.int .i64 p.1)∧w.cell? ((a.add (i*4)).add 1)=some (.int .i64 p.2.1)∧w.cell? ((a.add (i*4)).add 2)=some (.string p.2.2.1)∧w.cell? ((a.add (i*4)).add 3)=some (.string p.2.2.2):=fun i hi=>by
   obtain⟨cs',h1,h2⟩:=hx i (by omega);rw[aJE]at h1;obtain⟨_,ah,hc⟩:=World.cells?_some h1;match cs',ah with
   | [c0,c1,c2,c3],_=>
    obtain⟨y0,y1,y2,y3,k,_,_,e0,e1,e2,e3⟩:=trod_struct4 Tryz.underlying53 h2;have e0':DataW.trod enc Tryz.prog w base (fun _=>true) true k 2 [c0]=some y0:=by simpa [vZ,qK] using e0
    have e1':DataW.trod enc Tryz.prog w base (fun _=>true) true k 2 [c1]=some y1:=by simpa [vZ,qK] using e1
    have e2':DataW.trod enc Tryz.prog w base (fun _=>true) true k 9 [c2]=some y2:=by simpa [vZ,qK] using e2
    have e3':DataW.trod enc Tryz.prog w base (fun _=>true) true k 9 [c3]=some y3:=by simpa [vZ,qK] using e3
    obtain⟨q,hq,_,_⟩:=DataW.trod_int Tryz.underlying2 e0';obtain⟨q2,h9,_,_⟩:=DataW.trod_int Tryz.underlying2 e1';obtain⟨q3,rk,_,s3⟩:=DataW.trod_string Tryz.underlying9 e2';obtain⟨q4,EZ,_,s4⟩:=DataW.trod_string Tryz.underlying9 e3';simp only[List.cons.injEq,and_true]at hq h9 rk EZ;subst hq h9 rk EZ;have c0':=hc 0 (by omega);have c1':=hc 1 (by omega);have c2':=hc 2 (by omega);have c3':=hc 3 (by omega);simp only[List.getElem?_cons_zero,List.getElem?_cons_succ,Addr.add_zero']at c0' c1' c2' c3';exact⟨(q,q2,q3,q4),⟨oY s3,oY s4⟩,c0',c1',c2',c3'⟩
  obtain⟨f,hf⟩:=choose_lt each;have bw:∀i,i<len→((List.range len).map f).getD i yO.z=f i:=fun i hi=>by simp[hi]
  have bd:((List.range len).map f).length=len:=by simp
  refine⟨some a,cap,(List.range len).map f,by rw[bd],by rw[bd];exact oY (by omega),⟨some a,cap,by rw[bd],fun hp=>?_⟩,fun o ho=>?_⟩
  ·rw[bd]at hp
   have kr:a.spot=none:=by
    obtain⟨_,e0,_⟩:=hf 0 hp;rw[Nat.zero_mul,Addr.add_zero']at e0;exact World.cell?_spot e0
   obtain⟨b,off,spot⟩:=a;simp only at kr;subst kr;refine⟨b,off,rfl,?_,fun i hi=>?_⟩
   ·obtain⟨_,e0,_⟩:=hf 0 hp
    rw[Nat.zero_mul,Addr.add_zero']at e0;exact World.block_lt_of_cell? _ _ e0
   ·rw[bd]at hi
    obtain⟨_,e0,e1,e2,e3⟩:=hf i hi;simp only[Addr.add_lit]at e0 e1 e2 e3;rw[bw i hi];exact⟨e0,e1,e2,e3⟩
  ·obtain⟨i,hi,rfl⟩:=List.mem_map.1 ho
   exact(hf i (List.mem_range.1 hi)).1
theorem aKD{b0:Nat}{r:Reach}{v:Value}{d:DataW H}{p:List MemPlace}(hv:Value.okWide Tryz.prog w r b0 22 v)(h:DataW.Trod enc Tryz.prog w base (fun _=>true) true 22 v d p):
  ∃a cap rs,v=.slice a (List.length rs) cap∧rs.length≤9223372036854775807∧RdL w v rs∧∀o∈rs,o.2.2.1.size≤9223372036854775807∧o.2.2.2.size≤9223372036854775807:=by
 obtain⟨a,len,cap,rfl⟩:=okWide_slice Tryz.underlying22 hv;obtain⟨fuel,hf⟩:=h;obtain⟨a',cap',ss,he,h1,h2,h3⟩:=zM hf;simp[Value.cells]at he;obtain⟨rfl,rfl,rfl⟩:=he;exact⟨a,cap,ss,rfl,h1,h2,h3⟩
