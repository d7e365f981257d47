import Derived.Test.YtaahkgkdpnnhhaaGreatSq28
import Derived.Test.YtaahkgkdpnnhhaaGreatOpenN
set_option maxHeartbeats 9999999
set_option maxRecDepth 99999
set_option linter.all false
namespace Go.Proofs.YtaahkgkdpnnhhaaGreat
open Go.RowKit Fo
structure Frs(w:World)(n B2 B3 gc:Nat)(cj:List Int)(tv:Value)(j:Nat)(wr:World):Prop where
 b2:IsC wr B2 #[.int .i64 0,.slice none 0 0,.slice none 0 0,.int .i64 0,.int .i64 0,.slice none 0 0,.slice none 0 0] 57
 c:IsC wr gc (y64.row (List.replicate n 0++cj)) 2
 bel:Bl w wr
 ex:∃ag jk,IsC wr B3 #[.int .i64 n,.slice (adr ag) j (j+jk.length),.slice none 0 0,.int .i64 1,.int .i64 1,.slice (some ⟨gc,0,none⟩) n (n+cj.length),tv] 57∧yN.Rw wr ag (List.replicate j nv0) jk∧∀g,ag=some g→w.heap.size≤g
structure FrP(w:World)(n:Nat)(e:Ending)(w':World):Prop where
 ex:∃A,e=.returned (.agg (aL A (aH n)))∧SpV w' A (aH n)∧∃a k c,A.tv=.slice a k c
 bel:Bl w w'
theorem aEE{a:Array Value}{w:World}{B:Nat}{x:Array Value}(h:IsC w B x 57)(hx:x.size=7)(e:a.getD 2 undef=.pointer (some ⟨B,0,none⟩)):(results Tryz.f50 a).run Tryz.prog w=.ok (.agg x) w:=by
 have l:=jY h (by kernel_rfl) (by rw[hx];kernel_rfl);simp only[Array.getD_eq_getD_getElem?]at e;simp[results,Tryz.f50,e,asAddr,l]
theorem yR(n:Nat)(h8:8≤n)(h5:n≤512)(w:World):Calls Tryz.prog 50 #[.int .i64 n] w (FrP w n):=by
 obtain⟨B2,hB2⟩:=eZ (w.heap.size);obtain⟨w1,hw1⟩:=eZ (w.alloc (.cells #[.int .i64 0,.slice none 0 0,.slice none 0 0,.int .i64 0,.int .i64 0,.slice none 0 0,.slice none 0 0] 57));have e1:=bAl hw1;have c1:=iNw hw1 hB2;go_enter Tryz.func50,Tryz.ntmps50;go_wp2_with fail;refine(pT n h5 w1).mono ?_;rintro e w2 ⟨u,rfl,⟨ag,cj,rfl,hrw,hbs⟩,hb2⟩;obtain⟨gc,rfl⟩:∃g,ag=some g:=by
  cases ag with
  | none=>have e:=(hrw.nil rfl).1;have:=congrArg List.length e;rw[List.length_replicate,List.length_nil]at this;omega
  | some g=>exact⟨g,rfl⟩
 have hcz:IsC w2 gc (y64.row (List.replicate n 0++cj)) 2:=hrw.arr gc rfl;have hgc:=hbs gc rfl;have hsm:=hrw.small;rw[List.length_replicate]at hsm;simp only[adr,Option.map_some,List.length_replicate];obtain⟨q,hq⟩:=eZ (w2.heap.size);obtain⟨w3,hw3⟩:=eZ (w2.alloc (.cells #[.int .i64 3] 2));obtain⟨B3,hB3⟩:=eZ (w3.heap.size);obtain⟨w4,hw4⟩:=eZ (w3.alloc (.cells #[.int .i64 n,.slice none 0 0,.slice none 0 0,.int .i64 1,.int .i64 1,.slice (some ⟨gc,0,none⟩) n (n+cj.length),.slice (some ⟨q,0,none⟩) 1 1] 57));have b23:=bAl hw3;have b34:=bAl hw4;have b24:=b23.trans (b34.mono b23.size);have b02:=e1.trans (hb2.mono e1.size);have b04:=b02.trans (b24.mono b02.size);have i3:=iNw hw4 hB3;have i2:=(c1.of (hb2.block _ c1.lt)).of (b24.block _ (lL c1.lt hb2.size));have ic:=hcz.of (b24.block _ hcz.lt);have n23:B2≠B3:=by have:=c1.lt;have:=hb2.size;have:=b23.size;omega
 have l3:w.heap.size≤B3:=by have:=b02.size;have:=b23.size;omega
 have hB2w:w.heap.size≤B2:=Nat.le_of_eq hB2;have HST:Hid (Frs w n B2 B3 gc cj (.slice (some ⟨q,0,none⟩) 1 1) 0 w4):=⟨i2,ic,b04,none,[],i3,⟨fun g e=>(by cases e),fun _=>⟨rfl,rfl⟩,by simp⟩,fun g e=>(by cases e)⟩;have hgcw:w.heap.size≤gc:=by have:=e1.size;omega
 clear i2 i3 ic c1 hcz hrw hbs hB2;go_wp2;go_loopw [4] (fun i wr=>∃j:Nat,j≤n∧i=.int .i64 j∧Frs w n B2 B3 gc cj (.slice (some ⟨q,0,none⟩) 1 1) j wr) (fun i _=>n -(intOf i).toNat)
 case atStart=>exact⟨0,by omega,rfl,HST.out⟩
 case round=>
  clear HST hw1 hw3 hw4;obtain⟨j,hj,rfl,hC⟩:=hrel;obtain⟨ag,jk,k3,hrw,hbs⟩:=hC.ex;have m1:wr.cell? ⟨B3,1,none⟩=some (.slice (adr ag) j (j+jk.length)):=k3.c rfl;by_cases hlt:j<n
  ·have hji:(j:Int) <(n:Int):=by omega
   have hne:∀g,ag=some g→g≠B2∧g≠B3∧g≠gc:=fun g e=>⟨(hrw.arr g e).type_ne hC.b2 (by decide),(hrw.arr g e).type_ne k3 (by decide),(hrw.arr g e).type_ne hC.c (by decide)⟩;have HAP:Hid (∀(a':Option Nat) (junk':List NV) (w7:World),yN.Rw w7 a' (List.replicate j nv0++[nv0]) junk'→(∀g,a'=some g→ag=some g∨wr.heap.size≤g)→Frm (fun k=>ag=some k) wr w7→(IsC w7 B3 #[.int .i64 n,.slice (adr ag) j (j+jk.length),.slice none 0 0,.int .i64 1,.int .i64 1,.slice (some ⟨gc,0,none⟩) n (n+cj.length),.slice (some ⟨q,0,none⟩) 1 1] 57∧Frs w n B2 B3 gc cj (.slice (some ⟨q,0,none⟩) 1 1) (j+1) (w7.setCell ⟨B3,1,none⟩ (.slice (adr a') (j+1) (j+1+junk'.length))))):=fun a' junk' w7 h1 h2 h3=>by
    have k7:=k3.frm h3 (fun e=>(hne _ e).2.1 rfl);have b7:=hC.b2.frm h3 (fun e=>(hne _ e).1 rfl);have c7:=hC.c.frm h3 (fun e=>(hne _ e).2.2 rfl);have be7:Bl w w7:=hC.bel.trans (h3.below hC.bel.size fun g e=>hbs g e);refine⟨k7,b7.set_ne _ n23,c7.set_ne _ (c7.type_ne k7 (by decide)),be7.trans ((bQ _ w7).setCell (p:=⟨B3,1,none⟩) l3 _),a',junk',?_,?_,?_⟩
    ·have:=k7.set 1 (.slice (adr a') (j+1) (j+1+junk'.length))
     simpa using this
    ·have e:List.replicate (j+1) nv0=List.replicate j nv0++[nv0]:=by rw[List.replicate_succ']
     rw[e];exact h1.frm (Frm.set (S:=fun k=>k=B3) w7 (p:=⟨B3,1,none⟩) rfl _) (fun g eg=>(h1.arr g eg).type_ne k7 (by decide))
    ·intro g eg
     rcases h2 g eg with q | q
     ·exact hbs g q
     ·have:=hC.bel.size;omega
   have hlen:(List.replicate j nv0).length=j:=List.length_replicate;have HRW:yN.Rw wr ag (List.replicate j nv0) jk:=hrw;have m1':wr.cell? ⟨B3,1,none⟩=some (.slice (adr ag) (List.replicate j nv0).length ((List.replicate j nv0).length+jk.length)):=by rw[hlen];exact m1
   have HLE:=aA hlen;clear hC k3 hrw hlen m1;generalize List.replicate j nv0=zs at *;go_wp2_with (first | (at_builtin;refine yN.wpApp1F rfl _ _ rfl HRW rfl nv0 rfl rfl (by rw[HLE.out];omega) ?_;intro a' junk' w7 z1 z2 z3;obtain⟨k7,HF7⟩:=HAP.out a' junk' w7 z1 z2 z3;have m7:w7.cell? ⟨B3,1,none⟩=some (.slice (adr ag) j (j+jk.length)):=(k7.c rfl);have f7:=k7.frozen 1;rw[lP,HLE.out];clear z1 z2 z3 k7) | go_in);refine⟨⟨j+1,by omega,by go_num,HF7⟩,?_⟩;simp[intOf];omega
  ·obtain rfl:j=n:=by omega
   obtain⟨g1,rfl⟩:∃g,ag=some g:=by
    cases ag with
    | none=>have e:=(hrw.nil rfl).1;have:=congrArg List.length e;rw[List.length_replicate,List.length_nil]at this;omega
    | some g=>exact⟨g,rfl⟩
   have hg1:=hbs g1 rfl;have hN0:iZ wr g1 (List.replicate j nv0) jk (fun _=>none):=⟨hrw.arr g1 rfl,fun b d e=>(by cases e),hrw.small⟩;have hrl:(List.replicate j nv0).length=j:=List.length_replicate;have hNd:NdR wr (1,none,0,0) (1,[]):=⟨rfl,.inl ⟨rfl,rfl⟩,by simp⟩;have hN1:=hN0.set2 (q:=2) (by rw[hrl];omega) hNd;have n13:g1≠B3:=hN0.arr.type_ne k3 (by decide);have n12:g1≠B2:=hN0.arr.type_ne hC.b2 (by decide);have n1c:g1≠gc:=hN0.arr.type_ne hC.c (by decide);have nc3:gc≠B3:=hC.c.type_ne k3 (by decide);have F1:=eF wr g1 2 (1,none,0,0);have x4:wr.cell? ⟨g1,4,none⟩=some (.int .i64 0):=by
    have:=yN.at (List.replicate j nv0++jk) (i:=2) (j:=0) (by simp;omega) (by decide)
    rw[hN0.arr.cell];rw[cV,if_pos (by rw[hrl];omega)]at this;have e2:(List.replicate j nv0).getD 2 yN.z=nv0:=by rw[gD,List.getElem?_replicate];split<;>rfl
    rw[e2]at this;exact this
   have x5:wr.cell? ⟨g1,5,none⟩=some (.slice none 0 0):=by
    have:=yN.at (List.replicate j nv0++jk) (i:=2) (j:=1) (by simp;omega) (by decide)
    rw[hN0.arr.cell];rw[cV,if_pos (by rw[hrl];omega)]at this;have e2:(List.replicate j nv0).getD 2 yN.z=nv0:=by rw[gD,List.getElem?_replicate];split<;>rfl
    rw[e2]at this;exact this
   have f4:=hN0.arr.frozen 4;have f5:=hN0.arr.frozen 5;have hW1:∃W,(wr.setCell ⟨g1,4,none⟩ (.int .i64 1)).setCell ⟨g1,5,none⟩ (.slice none 0 0)=W:=⟨_,rfl⟩;obtain⟨W1,hW1⟩:=hW1;have hse:set2 wr g1 2 (1,none,0,0)=W1:=hW1;rw[hse]at hN1 F1;have k31:=k3.frm F1 (fun e=>n13 e.symm);have b21:=hC.b2.frm F1 (fun e=>n12 e.symm);have c01:=hC.c.frm F1 (fun e=>n1c e.symm);have be1:Bl w W1:=hC.bel.trans (F1.below hC.bel.size fun g e=>by rw[e];exact hg1);obtain⟨gr,hgr⟩:=eZ (W1.heap.size);obtain⟨W2,hW2⟩:=eZ (W1.alloc (.cells #[.int .i64 0,.int .i64 2] 77));have bw2:=bAl hW2;have ir:=iNw hW2 hgr;have k32:=k31.of (bw2.block _ k31.lt);have b22:=b21.of (bw2.block _ b21.lt);have c02:=c01.of (bw2.block _ c01.lt);have hN2:=hN1.below bw2;have m2:W2.cell? ⟨B3,2,none⟩=some (.slice none 0 0):=k32.c rfl;have z2:=k32.frozen 2;have k33:=k32.set 2 (.slice (some ⟨gr,0,none⟩) 1 1);have F3:Frm (fun k=>k=B3) W2 (W2.setCell ⟨B3,2,none⟩ (.slice (some ⟨gr,0,none⟩) 1 1)):=Frm.set (S:=fun k=>k=B3) W2 (p:=⟨B3,2,none⟩) rfl _;obtain⟨W3,hW3⟩:=eZ (W2.setCell ⟨B3,2,none⟩ (.slice (some ⟨gr,0,none⟩) 1 1));rw[hW3]at k33 F3;have nr3:gr≠B3:=ir.type_ne k32 (by decide);have b23':=b22.frm F3 (fun e=>n23 e);have c03:=c02.frm F3 (fun e=>nc3 e);have ir3:=ir.frm F3 (fun e=>nr3 e);have hN3:=hN2.frm F3 (fun g cs hg e=>by subst e;exact hg.type_ne k32 (by decide) rfl) (fun e=>n13 e);have hzl:(List.replicate j (0:Int)).length=j:=List.length_replicate;have y2:=jD c03 (i:=2) (by rw[hzl];omega);have fz2:=c03.frozen 2;have c04:=nO c03 (i:=2) (by rw[hzl];omega) 1;have F4:Frm (fun k=>k=gc) W3 (W3.setCell ⟨gc,2,none⟩ (.int .i64 1)):=Frm.set (S:=fun k=>k=gc) W3 (p:=⟨gc,2,none⟩) rfl _;obtain⟨W4,hW4⟩:=eZ (W3.setCell ⟨gc,2,none⟩ (.int .i64 1));rw[hW4]at c04 F4;have y3:=jD c04 (i:=3) (by simp;omega);have fz3:=c04.frozen 3;have c05:=nO c04 (i:=3) (by simp;omega) 1;have F5:Frm (fun k=>k=gc) W4 (W4.setCell ⟨gc,3,none⟩ (.int .i64 1)):=Frm.set (S:=fun k=>k=gc) W4 (p:=⟨gc,3,none⟩) rfl _;obtain⟨W5,hW5⟩:=eZ (W4.setCell ⟨gc,3,none⟩ (.int .i64 1));rw[hW5]at c05 F5;have F45:=F4.trans F5;have k35:=k33.frm F45 (fun e=>nc3 e.symm);have k34:=k33.frm F4 (fun e=>nc3 e.symm);have n2c:B2≠gc:=fun e=>hC.c.type_ne hC.b2 (by decide) e.symm;have b25:=b23'.frm F45 (fun e=>n2c e);have nrc:gr≠gc:=ir3.type_ne c03 (by decide);have ir5:=ir3.frm F45 (fun e=>nrc e);have hN5:=hN3.frm F45 (fun g cs hg e=>by subst e;exact hg.type_ne c03 (by decide) rfl) (fun e=>n1c e);have be5:Bl w W5:=by
    have q1:=be1.trans (bw2.mono be1.size);have q2:=q1.trans (F3.below q1.size fun g e=>by rw[e];exact l3);exact q2.trans (F45.below q2.size fun g e=>by rw[e];exact hgcw)
   have m53:W3.cell? ⟨B3,5,none⟩=some (.slice (some ⟨gc,0,none⟩) j (j+cj.length)):=k33.c rfl;have m54:W4.cell? ⟨B3,5,none⟩=some (.slice (some ⟨gc,0,none⟩) j (j+cj.length)):=k34.c rfl;have hsl:((List.replicate j nv0).set 2 (1,none,0,0)).length=j:=by simp
   have hcl:(((List.replicate j (0:Int)).set 2 1).set 3 1).length=j:=by simp
   have hV:SpV W5 {ga:=g1,ns:=(List.replicate j nv0).set 2 (1,none,0,0),nj:=jk,gr:=gr,rj:=[],cv:=.slice (some ⟨gc,0,none⟩) j (j+cj.length),tv:=.slice (some ⟨q,0,none⟩) 1 1} (aH j):=by
    refine⟨⟨hN5.arr,fun b d hd=>?_,hN5.small⟩,?_,?_,by simp[aH,maxLen],.inr ⟨gc,0,j+cj.length,((List.replicate j (0:Int)).set 2 1).set 3 1++cj,?_,c05,?_,?_⟩⟩
    ·refine hN5.nd b d ?_
     rw[←hd];show upd (fun _=>none) 2 (some (1,[])) b=if b=2 then some (1,[])else none
     rfl
    ·simp[aH]
    ·have:=ir5
     simpa [aH,Ely.row,yT,aS] using this
    ·simp[aH]
    ·simp[aH]
    ·simp[aH]
   have hXe:#[Value.int .i64 j,.slice (some ⟨g1,0,none⟩) j (j+jk.length),.slice (some ⟨gr,0,none⟩) 1 1,.int .i64 1,.int .i64 1,.slice (some ⟨gc,0,none⟩) j (j+cj.length),.slice (some ⟨q,0,none⟩) 1 1]=aL {ga:=g1,ns:=(List.replicate j nv0).set 2 (1,none,0,0),nj:=jk,gr:=gr,rj:=[],cv:=.slice (some ⟨gc,0,none⟩) j (j+cj.length),tv:=.slice (some ⟨q,0,none⟩) 1 1} (aH j):=by
    simp[aL,aH]
   have kx:IsC W5 B3 #[Value.int .i64 j,.slice (some ⟨g1,0,none⟩) j (j+jk.length),.slice (some ⟨gr,0,none⟩) 1 1,.int .i64 1,.int .i64 1,.slice (some ⟨gc,0,none⟩) j (j+cj.length),.slice (some ⟨q,0,none⟩) 1 1] 57:=by simpa [adr] using k35
   have HFI:Hid (∀wa:World,Frm (fun k=>k=B2) W5 wa→FrP w j (.returned (.agg #[Value.int .i64 j,.slice (some ⟨g1,0,none⟩) j (j+jk.length),.slice (some ⟨gr,0,none⟩) 1 1,.int .i64 1,.int .i64 1,.slice (some ⟨gc,0,none⟩) j (j+cj.length),.slice (some ⟨q,0,none⟩) 1 1])) wa):=fun wa hF=>by
    rw[hXe];refine⟨⟨_,rfl,?_,⟨_,_,_,rfl⟩⟩,be5.trans (hF.below be5.size fun g e=>by rw[e];exact hB2w)⟩;refine hV.frm hF (fun g cs t ht hg e=>?_);subst e;refine hg.type_ne b25 ?_ rfl;rcases ht with e | e | e | e<;>rw[e]<;>decide
   have hone:(#[Value.int .i64 j,.slice (some ⟨g1,0,none⟩) j (j+jk.length),.slice (some ⟨gr,0,none⟩) 1 1,.int .i64 1,.int .i64 1,.slice (some ⟨gc,0,none⟩) j (j+cj.length),.slice (some ⟨q,0,none⟩) 1 1]).all (·.oneCell')=true:=by simp[Value.oneCell']
   have hsz7:(#[Value.int .i64 j,.slice (some ⟨g1,0,none⟩) j (j+jk.length),.slice (some ⟨gr,0,none⟩) 1 1,.int .i64 1,.int .i64 1,.slice (some ⟨gc,0,none⟩) j (j+cj.length),.slice (some ⟨q,0,none⟩) 1 1]).size=7:=rfl;generalize (#[Value.int .i64 j,.slice (some ⟨g1,0,none⟩) j (j+jk.length),.slice (some ⟨gr,0,none⟩) 1 1,.int .i64 1,.int .i64 1,.slice (some ⟨gc,0,none⟩) j (j+cj.length),.slice (some ⟨q,0,none⟩) 1 1])=XS at kx HFI hone hsz7;have h2i:(2:Int) <(j:Int):=by omega
   have h3i:(3:Int) <(j:Int):=by omega
   have r1:wr.cell? ⟨B3,1,none⟩=some (.slice (some ⟨g1,0,none⟩) j (j+jk.length)):=m1;have KX:=aA kx;have B25:=aA b25;clear hXe hV hN0 hN1 hN2 hN3 hN5 k3 k31 k32 k33 k34 k35 kx b21 b22 b23' b25 c01 c02 c03 c04 c05 ir ir3 ir5 F1 F3 F4 F5 F45 bw2 be1 be5 hC hrw hbs hNd hse m1 hrl hzl hsl hcl;generalize (List.replicate j (0:Int)).getD 2 0=v2 at *;generalize ((List.replicate j (0:Int)).set 2 1).getD 3 0=v3 at *;go_upto_region 10 with fail
   refine wp_region_list ?_;refine wpList_plain rfl (fun K2 hK2=>?_);refine cJ _ rfl B3 KX.out rfl hsz7 ?_;refine hK2 _ _ ?_;clear hK2 K2;simp only[Act.put,sB,sZ,sS];refine wpList_plain rfl (fun K2 hK2=>?_);refine aK _ _ _ rfl B2 B25.out rfl rfl hsz7 (by rw[hsz7];kernel_rfl) hone fun wa ja jaF=>?_;refine hK2 _ _ ?_;clear hK2 K2;refine wpList_nil ?_;simp only[Act.put,sB,sZ,sS];have HFJ:=aA (HFI.out wa jaF);clear HFI jaF;go_wp2;refine bodyPost_ret (v:=.agg XS) (aEE ja hsz7 rfl) rfl ?_;exact HFJ.out
structure CmP(w:World)(S:Nat)(f:fZ)(e:Ending)(w':World):Prop where
 ex:∃A' a0 n0 c0 a1 n1 c1 rv,e=.returned (.tuple #[.slice a0 n0 c0,.slice a1 n1 c1,rv,.int .i64 (cP f).2.1])∧((n0:Int)+(n1:Int))=(cP f).2.2.1∧n0≤512∧n1≤512∧Sp w' S A' (cP f).1∧∃a k c,A'.tv=.slice a k c
 frm:Frm (fun k=>k=S) w w'
theorem CmP.bad{w w':World}{S:Nat}{A:SA}{f:fZ}(h:Sp w S A f)(htv:∃a k c,A.tv=.slice a k c){c:Int}(hc:cP f=(f,c,0,.empty))(hb:Bl w w'):CmP w S f (.returned (.tuple #[.slice none 0 0,.slice none 0 0,.slice none 0 0,.int .i64 c])) w':=
 ⟨⟨A,none,0,0,none,0,0,.slice none 0 0,by rw[hc],by rw[hc];rfl,by omega,by omega,by rw[hc];exact h.below hb,htv⟩,Frm.of_below hb⟩
theorem CmP.good{w w3:World}{S:Nat}{A:SA}{f:fZ}(h:Sp w S A f)(hI:Inv f){p:List Int}(hc:cP f=(dM f p,0,(dY f:Int)+(p.length:Int),.empty))(hb:Bl w w3){gc:Nat}{cj:List Int}(hcur:IsC w3 gc (y64.row (bF f.cur p++cj)) 2)(hgc:w.heap.size≤gc)(hp:p.length≤512)(a0 a1:Option Addr)(c0 c1:Nat)(rv:Value):
  CmP w S f (.returned (.tuple #[.slice a0 (dY f) c0,.slice a1 p.length c1,rv,.int .i64 0])) (((w3.setCell ⟨S,5,none⟩ (.slice (some ⟨gc,0,none⟩) f.cur.length (f.cur.length+cj.length))).setCell ⟨S,6,none⟩ (.slice a1 p.length c1)).setCell ⟨S,4,none⟩ (.int .i64 (f.gen+1))):=by
 have hne:gc≠S:=by have:=h.box.lt;omega
 have hb3:=h.box.of (hb.block _ h.box.lt);have k1:=hb3.set 5 (.slice (some ⟨gc,0,none⟩) f.cur.length (f.cur.length+cj.length));have k2:=k1.set 6 (.slice a1 p.length c1);have k3:=k2.set 4 (.int .i64 (f.gen+1));have F:Frm (fun k=>k=S) w (((w3.setCell ⟨S,5,none⟩ (.slice (some ⟨gc,0,none⟩) f.cur.length (f.cur.length+cj.length))).setCell ⟨S,6,none⟩ (.slice a1 p.length c1)).setCell ⟨S,4,none⟩ (.int .i64 (f.gen+1))):=
  (((Frm.of_below hb).trans (Frm.set (S:=fun k=>k=S) w3 (p:=⟨S,5,none⟩) rfl _)).trans (Frm.set (S:=fun k=>k=S) _ (p:=⟨S,6,none⟩) rfl _)).trans (Frm.set (S:=fun k=>k=S) _ (p:=⟨S,4,none⟩) rfl _)
 have hv:=h.v.frm F (fun g cs t ht hg e=>by
  subst e;refine hg.type_ne h.box ?_ rfl;rcases ht with e | e | e | e<;>rw[e]<;>decide)
 have hcm:=((hcur.set_ne (p:=⟨S,5,none⟩) (.slice (some ⟨gc,0,none⟩) f.cur.length (f.cur.length+cj.length)) hne).set_ne (p:=⟨S,6,none⟩) (.slice a1 p.length c1) hne).set_ne (p:=⟨S,4,none⟩) (.int .i64 (f.gen+1)) hne;have hd:=vS f;have h5:=hI.ic.n512;refine⟨⟨{A with cv:=.slice (some ⟨gc,0,none⟩) f.cur.length (f.cur.length+cj.length),tv:=.slice a1 p.length c1},a0,dY f,c0,a1,p.length,c1,rv,by rw[hc],by rw[hc],by omega,hp,?_,⟨_,_,_,rfl⟩⟩,F⟩;rw[hc];refine⟨?_,hv.nds,hv.ln,hv.rts,hv.rs,.inr ⟨gc,0,f.cur.length+cj.length,bF f.cur p++cj,?_,hcm,?_,?_⟩⟩
 ·simpa [aL,dM] using k3
 ·show Value.slice _ _ _=_
  have e:(dM f p).com.length=f.cur.length:=iU _ _;rw[e];simp
 ·show 0+(bF f.cur p).length≤_
  simp
 ·show((bF f.cur p++cj).drop 0).take (bF f.cur p).length=_
  simp[dM]
theorem wX(c p:List Int)(j:Nat)(h:j<p.length):bF c (p.take (j+1))=(bF c (p.take j)).set (p.getD j 0).toNat 1:=by
 rw[cG p j 0 h];unfold bF;rw[List.foldl_append];rfl
theorem aEO{f:fZ}{k:Nat}(h:0<cu f k)(h2:co f k=0):(cX f (k+1)).map (fun x:Nat=>(x:Int))=(cX f k).map (fun x:Nat=>(x:Int))++[(k:Int)]:=by
 show(cX f k++if 0<cu f k∧co f k=0 then [k]else []).map _=_
 rw[if_pos ⟨h,h2⟩,List.map_append];rfl
theorem aGW{f:fZ}{k:Nat}(h:¬(0<cu f k∧co f k=0)):(cX f (k+1)).map (fun x:Nat=>(x:Int))=(cX f k).map (fun x:Nat=>(x:Int)):=by
 show(cX f k++if 0<cu f k∧co f k=0 then [k]else []).map _=_
 rw[if_neg h,List.append_nil]
theorem xB{f:fZ}(hI:Inv f)(w:World)(S:Nat)(A:SA)(h:Sp w S A f)(htv:∃a k c,A.tv=.slice a k c):
  Calls Tryz.prog 51 #[.pointer (some ⟨S,0,none⟩)] w (CmP w S f):=by
 have h8:=hI.ic.n8;have h5:=hI.ic.n512;have hgen:=hI.gn;have hSw:=h.box.lt;obtain⟨s0,_,_,_,s4,_,_⟩:=h.cells;have HBAD:=aA fun(w':World) (c:Int) (hc:cP f=(f,c,0,.empty)) (hb:Bl w w')=>CmP.bad h htv hc hb;by_cases hg:1099511627776≤f.gen
 ·have HC:Hid (cP f=(f,4,0,.empty)):=by unfold cP;rw[if_pos hg];rfl
  go_enter Tryz.func51,Tryz.ntmps51
  go_wp2
  refine bodyPost_ret (v:=.tuple #[.slice none 0 0,.slice none 0 0,.slice none 0 0,.int .i64 4]) (by simp[results,Tryz.results51,go_sem]) rfl ?_;exact HBAD.out _ _ HC.out (bQ _ _)
 ·go_enter Tryz.func51,Tryz.ntmps51
  go_wp2_with fail
  refine(fR hI.ic (fun x=>by have:=hI.counts x;omega) (fun b d hd=>by have:=hI.ent hd;omega) w S A h (by have:=hI.r16;omega)).mono ?_;rintro r w1 ⟨u,rfl,⟨ag,cj,rfl,hrw,hbs⟩,hb1⟩;obtain⟨gc,rfl⟩:∃g,ag=some g:=by
   cases ag with
   | none=>have e:=(hrw.nil rfl).1;rw[e]at h8;simp at h8
   | some g=>exact⟨g,rfl⟩
  have hcz:IsC w1 gc (y64.row (f.cur++cj)) 2:=hrw.arr gc rfl;have hgc:=hbs gc rfl;have hsm:=hrw.small;have h1:=h.below hb1;obtain⟨_,_,_,_,_,s5,_⟩:=h1.cells;obtain⟨gm,om,cm,hcv,hgm,_,hcem⟩:=mQ h1.v.com (by rw[hI.ic.len];omega);have hn1:Nts w1 (.slice (some ⟨gc,0,none⟩) f.cur.length (f.cur.length+cj.length)) f.cur:=Ely.Sl.nts hrw.sl (fun i=>by have:=hI.counts i;have e:f.cur.getD i 0=cu f i:=rfl;rw[e];omega);have hn2:Nts w1 (.slice (some ⟨gm,om,none⟩) f.com.length cm) f.com:=by
   rw[←hcv];exact Ely.Sl.nts h1.v.com (fun i=>by have:=hI.cmr i;have e:f.com.getD i 0=co f i:=rfl;rw[e];omega)
  rw[hcv]at s5;have hgmw:gm<w.heap.size:=by
   rcases h.v.com with⟨e,_⟩ | ⟨g,o,cap,xs,e,k,_⟩
   ·rw[hcv]at e;cases e
   ·rw[hcv]at e;cases e;exact k.lt
  simp only[adr,Option.map_some];have HL:Hid (f.com.length=f.cur.length):=hI.ic.len;have HZ:=aA hcz;have hgc1:=hcz.lt;have s41:w1.cell? ⟨S,4,none⟩=some (.int .i64 f.gen):=h1.cells.2.2.2.2.1;clear hcv hrw hbs hcz h1;go_wp2_with fail;refine(aCB _ _ _ _ f.cur f.com w1 hn1 hn2 (aDH hI)).mono ?_;rintro e w2 ⟨a0,c0,a1,c1,l0,u0,l1,u1,rfl,q1,q2,q3,q4,_,hP,_,hb2⟩;have hb02:=hb1.trans (hb2.mono hb1.size);have hpl:=sP f.cur f.com;have HTW:=aA (qY (zs:=f.cur) (ys:=f.com));have HPL:Hid (cP f=if 1099511627776≤f.gen then(f,4,0,.empty)else if plC f.cur f.com≠0 then(f,plC f.cur f.com,0,.empty)else(dM f (plP f.cur f.com),0,(dY f:Int)+((plP f.cur f.com).length:Int),.empty)):=(rfl:cP f=_);obtain⟨pc,hpc⟩:=eZ (plC f.cur f.com);obtain⟨p,hp⟩:=eZ (plP f.cur f.com);obtain⟨rs,hrs⟩:=eZ (plR f.cur f.com);rw[hpc,hp]at HPL;rw[hp]at HTW hpl hP;rw[hpc,hp,hrs];clear hpc hp hrs hn1 hn2;by_cases hc:pc=0
  ·subst hc
   have HC:Hid (cP f=(dM f p,0,(dY f:Int)+(p.length:Int),.empty)):=by
    have:=HPL.out;rw[if_neg (by omega),if_neg (by simp)]at this;exact this
   have hz2:IsC w2 gc (y64.row (f.cur++cj)) 2:=HZ.out.of (hb2.block _ HZ.out.lt);have HZ2:=aA hz2;have hgc2:=hz2.lt;have hP2:=aA hP;have hS2:∀(w':World),Bl w2 w'→Sp w' S A f:=fun w' hb=>h.below (hb02.trans (hb.mono hb02.size));have HS2:=aA hS2;have s02:w2.cell? ⟨S,0,none⟩=some (.int .i64 f.cur.length):=(hS2 w2 (bQ _ _)).cells.1;have HCE:=aA fun(w':World) (k:Nat) (hb:Bl w2 w') (hk:k<f.cur.length)=>hcem w' k ((hb.block gm (lL hgm hb2.size)).trans (hb2.block gm hgm)) (by rw[HL.out];exact hk);have HS5:=aA fun(w':World) (hb:Bl w2 w')=>(hb.cell (p:=⟨S,5,none⟩) (lL hSw hb02.size)).trans ((hb2.cell (p:=⟨S,5,none⟩) (lL hSw hb1.size)).trans s5);clear hS2 hz2 hP hcem HPL;go_wp2;go_loopw [10,11] (fun d i wr=>∃k:Nat,k≤f.cur.length∧i=.int .i64 k∧y64.Own w2.heap.size wr d ((cX f k).map fun x:Nat=>(x:Int))∧Bl w2 wr) (fun _ i _=>f.cur.length -(intOf i).toNat)
   case atStart=>exact⟨0,by omega,rfl,Ely.Own.lit _ w2 (nR _) _ rfl,(bQ _ w2).alloc (nR _) _⟩
   case round=>
    obtain⟨k,hkn,rfl,hown,hb3⟩:=hrel;have hS3:=HS2.out wr hb3;have t0:=hS3.cells.1;have t5:=HS5.out wr hb3;by_cases hlt:k<f.cur.length
    ·have x0:=jD (HZ2.out.of (hb3.block _ hgc2)) hlt
     have x1:=HCE.out wr k hb3 hlt;have hki:(k:Int) <(f.cur.length:Int):=by omega
     have hkm:(k:Int) <(f.com.length:Int):=by rw[HL.out];omega
     have hsz3:=hb3.size;have hfl:((cX f k).map fun x:Nat=>(x:Int)).length<1000000:=by have:=kZ f k;simp;omega
     have HY:=aA (aEO (f:=f) (k:=k));have HN:=aA (aGW (f:=f) (k:=k));unfold cu co at HY HN;generalize f.cur.getD k 0=x at *;generalize f.com.getD k 0=y at *;clear hS3 HS2;by_cases hx:0<x
     ·by_cases hy:y=0
      ·have HD:=aA (HY.out hx hy)
       clear HY HN;go_wp2_with (first | (at_builtin;refine y64.wpApp1 rfl _ _ rfl hown rfl (k:Int) rfl rfl hfl hsz3 ?_;intro v' w3 hown1 hbel1 k3) | go_in);rw[←HD.out]at hown1;go_roundw
       case rel=>exact⟨k+1,by omega,by go_num,hown1,hb3.trans hbel1⟩
       case measure=>simp[intOf];omega
      ·have HD:=aA (HN.out (fun q=>hy q.2))
       clear HY HN;rw[←HD.out]at hown;go_wp2;go_roundw
       case rel=>exact⟨k+1,by omega,by go_num,hown,hb3⟩
       case measure=>simp[intOf];omega
     ·have HD:=aA (HN.out (fun q=>hx q.1))
      clear HY HN;rw[←HD.out]at hown;go_wp2;go_roundw
      case rel=>exact⟨k+1,by omega,by go_num,hown,hb3⟩
      case measure=>simp[intOf];omega
    ·obtain⟨w5,rfl⟩:∃w5,w5=wr:=⟨wr,rfl⟩
     obtain rfl:k=f.cur.length:=by omega
     obtain⟨da,dc,hdv⟩:=hown.sl.len;have hde:((cX f f.cur.length).map fun x:Nat=>(x:Int)).length=dY f:=by simp[dY]
     rw[hde]at hdv;subst hdv;have hz3:=HZ2.out.of (hb3.block _ hgc2);have HP3:=aA (hP2.out.below hb3);have hsz3:=hb3.size;have hb03:=hb02.trans (hb3.mono hb02.size);clear hown hS3 HS2 HCE HS5 t5 hP2 hde;go_wp2;go_loopw [12] (fun i w4=>∃j:Nat,j≤p.length∧i=.int .i64 j∧IsC w4 gc (y64.row (bF f.cur (p.take j)++cj)) 2∧Frm (fun k=>k=gc) w5 w4) (fun i _=>p.length -(intOf i).toNat)
     case atStart=>exact⟨0,by omega,rfl,by simpa [bF] using hz3,Frm.refl _ _⟩
     case round=>
      obtain⟨j,hj,rfl,hz4,hF4⟩:=hrel;obtain⟨w4,rfl⟩:∃w4,w4=wr:=⟨wr,rfl⟩;by_cases hlt:j<p.length
      ·have hP4:=HP3.out.kept (w':=w4) hF4.size (fun b hb1 hb2 hb3=>hF4.block b hb3 (fun e=>by subst e;omega))
       obtain⟨_,_,he,hs⟩:=hP4.shape;simp only[Value.slice.injEq,true_and]at he;obtain⟨rfl,rfl⟩:=he;obtain⟨pb,po,rfl,_,_,_,hpc⟩:=hs (by omega);have x0:=(hpc j hlt).1;have hpm:p.getD j 0∈p:=by rw[gD,gE hlt];exact List.getElem_mem hlt
       have hpb:=HTW.out _ hpm;have HNX:=aA (wX f.cur p j hlt);obtain⟨bb,hbb⟩:∃bb:Nat,p.getD j 0=(bb:Int):=⟨(p.getD j 0).toNat,by omega⟩;rw[hbb]at x0 hpb HNX;simp only[Int.toNat_natCast]at HNX;have hcl:(bF f.cur (p.take j)).length=f.cur.length:=iU _ _;have hbn:bb<f.cur.length:=by omega
       have yb:=jD hz4 (i:=bb) (by rw[hcl];exact hbn);have zb:=hz4.frozen bb;have HS4:=aA (nO hz4 (i:=bb) (by rw[hcl];exact hbn) 1);rw[←HNX.out]at HS4;have hbi:(bb:Int) <(f.cur.length:Int):=by omega
       have hji:(j:Int) <(p.length:Int):=by omega
       generalize (bF f.cur (p.take j)).getD bb 0=cv at *;clear hP4 hs hpc hpm hbb hcl HNX hz3 hz4;go_wp2;go_roundw
       case rel=>exact⟨j+1,by omega,by go_num,HS4.out,hF4.trans (Frm.set (S:=fun k=>k=gc) _ (p:=⟨gc,bb,none⟩) rfl _)⟩
       case measure=>simp[intOf];omega
      ·obtain rfl:j=p.length:=by omega
       rw[List.take_of_length_le (nR _)]at hz4;have hb04:Bl w w4:=hb03.trans (hF4.below hb03.size fun g e=>by rw[e];exact hgc);have hS4:=h.below hb04;obtain⟨_,_,_,_,v4,v5,v6⟩:=hS4.cells;have z4:=hS4.box.frozen 4;have z5:=hS4.box.frozen 5;have z6:=hS4.box.frozen 6;have HG:=aA (CmP.good h hI HC.out hb04 hz4 hgc hpl da a0 dc c0 (.slice a1 rs.length c1));have hgn:=hI.gn;clear hz4 hS4 hF4 hz3 HP3 HZ HZ2 h hb04;go_wp2;refine bodyPost_ret (v:=.tuple #[.slice da (dY f) dc,.slice a0 p.length c0,.slice a1 rs.length c1,.int .i64 0]) (by simp[results,Tryz.results51,go_sem]) rfl ?_;exact HG.out
  ·have HC:Hid (cP f=(f,pc,0,.empty)):=by
    have:=HPL.out;rw[if_neg (by omega),if_pos hc]at this;exact this
   clear hP HPL;go_wp2;refine bodyPost_ret (v:=.tuple #[.slice none 0 0,.slice none 0 0,.slice none 0 0,.int .i64 pc]) (by simp[results,Tryz.results51,go_sem]) rfl ?_;exact HBAD.out _ _ HC.out hb02
