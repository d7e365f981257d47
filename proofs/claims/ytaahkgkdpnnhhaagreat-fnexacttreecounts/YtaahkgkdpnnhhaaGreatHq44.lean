import Derived.Test.YtaahkgkdpnnhhaaGreatFf2
set_option maxHeartbeats 9999999
set_option maxRecDepth 99999
set_option linter.all false
namespace Go.Proofs.YtaahkgkdpnnhhaaGreat
open Go.RowKit Go.Shelf Fo
theorem aIG{w:World}{g:Nat}{l:List An}(h:IsC w g (yA.row l) 92){i:Nat}(hi:i<l.length)(x y:Int)(z:ByteArray):
  IsC (((w.setCell ⟨g,i*3,none⟩ (.int .i64 x)).setCell ⟨g,i*3+1,none⟩ (.int .i64 y)).setCell ⟨g,i*3+2,none⟩ (.string z)) g (yA.row (l.set i (x,y,z))) 92:=yA.setAt h hi (x,y,z)
def anP(l:List An)(n:Nat):List An:=l++List.replicate (n-l.length) yA.z
theorem aJG{l:List An}{n:Nat}(h:l.length≤n):(anP l n).length=n:=by unfold anP;simp;omega
theorem aJE{l:List An}{n:Nat}(h:l.length<n)(a:An):(anP l n).set l.length a=anP (l++[a]) n:=by
 unfold anP;rw[List.set_append_right _ _ (nR _),Nat.sub_self,show n-l.length=(n -(l++[a]).length)+1 by simp;omega,List.replicate_succ,List.set_cons_zero];simp
structure aKC(w:World)(n:Int)(ops:List TO)(e:Ending)(w':World):Prop where
 dev:inB n 8 512=false→e=.returned (.tuple #[.pointer none,.slice none 0 0,.int .i64 1])
 lim:inB n 8 512=true→2000<ops.length→e=.returned (.tuple #[.pointer none,.slice none 0 0,.int .i64 4])
 ok:inB n 8 512=true→ops.length≤2000→∃P ga ρ A J,e=.returned (.tuple #[.pointer (some ⟨P,0,none⟩),.slice (some ⟨ga,0,none⟩) ops.length ops.length,.int .i64 0])∧St w' ρ P A (jL (aH n.toNat) ops) J∧(∀x,x<w.heap.size→ρ x=0)∧IsC w' ga (yA.row (iS (aH n.toNat) ops)) 92∧ρ ga=0∧w.heap.size≤ga
 bel:Bl w w'
structure GrI(w:World)(f0:fZ)(ops:List TO)(P ga k:Nat)(wr:World):Prop where
 st:∃ρ A J,St wr ρ P A (jL f0 (ops.take k)) J∧(∀x,x<w.heap.size→ρ x=0)∧ρ ga=0
 an:IsC wr ga (yA.row (anP (iS f0 (ops.take k)) ops.length)) 92
 bel:Bl w wr
theorem aCM(n:Int)(ops:List TO)(v:Value)(w:World)(hv:yO.Sl w v ops)(hl:ops.length≤1048576):Calls Tryz.prog 36 #[.int .i64 n,v] w (aKC w n ops):=by
 obtain⟨va,vc,hve⟩:=hv.len;have HV:=aA (aI hv hve);subst hve;clear hv;go_enter Tryz.func36,Tryz.ntmps36;go_wp2_with fail;refine(eP n 8 512 w).mono ?_;rintro e w1' ⟨rfl,rfl⟩;cases hin:inB n 8 512 with
 | false=>
  have HIN:=aA hin;clear hin;go_wp2;refine bodyPost_ret (v:=.tuple #[.pointer none,.slice none 0 0,.int .i64 1]) (by simp[results,Tryz.results36,go_sem]) rfl ?_;exact⟨fun _=>rfl,fun q=>(by rw[HIN.out]at q;cases q),fun q=>(by rw[HIN.out]at q;cases q),bQ _ _⟩
 | true=>
  have HIN:=aA hin;by_cases h2:2000<ops.length
  ·have h2i:(2000:Int) <(ops.length:Int):=by omega
   clear hin;go_wp2;refine bodyPost_ret (v:=.tuple #[.pointer none,.slice none 0 0,.int .i64 4]) (by simp[results,Tryz.results36,go_sem]) rfl ?_;exact⟨fun q=>(by rw[HIN.out]at q;cases q),fun _ _=>rfl,fun _ q=>absurd q (by omega),bQ _ _⟩
  ·have h2i:¬(2000:Int) <(ops.length:Int):=by omega
   have hnn:8≤n∧n≤512:=by unfold inB at hin;simpa using hin
   obtain⟨N,hN⟩:∃N:Nat,n=(N:Int):=⟨n.toNat,by omega⟩;have HNE:Hid (n.toNat=N):=(show n.toNat=N by omega);subst hN;clear hin;have hI0:=Inv.fresh (n:=N) (by omega) (by omega);have hVE0:=uA N;have hmk:=fun(W:World)=>yA.make ops.length hl W;go_wp2_with fail;refine(qG N (by omega) w).mono ?_;rintro e w2 ⟨P,r,m,p,c,d,q,rfl,hFr,hb2⟩;obtain⟨hS2,hr2⟩:=hFr.st (by omega);obtain⟨ga,hga⟩:=eZ (w2.heap.size);obtain⟨w3,hw3⟩:=eZ (w2.alloc (.cells (yA.row (List.replicate ops.length yA.z)) 92));have hb3:=bAl hw3;have i3:=iNw hw3 hga;have hmk2:(Instr.makeSlice 46 (.int .i64 (ops.length:Int)) (.int .i64 (ops.length:Int))).run Tryz.prog w2=.ok (.slice (some ⟨ga,0,none⟩) ops.length ops.length) w3:=by rw[←hw3,←hga];exact hmk w2
   have hgw:w.heap.size≤ga:=by have:=hb2.size;omega
   have HST:Hid (GrI w (aH N) ops P ga 0 w3):=⟨⟨_,_,_,hS2.below hb3,hr2,hS2.no0 (Nat.le_of_eq hga)⟩,by simpa [anP,iS,aFD] using i3,hb2.trans (hb3.mono hb2.size)⟩;clear hS2 hr2 hFr i3 hmk;go_wp2;go_loopw [24,9,10] (fun i _ _ wr=>∃k:Nat,k≤ops.length∧i=.int .i64 k∧GrI w (aH N) ops P ga k wr) (fun i _ _ _=>ops.length -(intOf i).toNat)
   case atStart=>exact⟨0,by omega,rfl,HST.out⟩
   case round=>
    clear HST hw3 hmk2;obtain⟨k,hk,rfl,hC⟩:=hrel;obtain⟨ρ,A,J,hS,hrw,hrg⟩:=hC.st;by_cases hlt:k<ops.length
    ·obtain⟨g,o,cc,hve,hgw',hcell⟩:=aKM HV.out.1 (by omega)
     simp only[Value.slice.injEq,true_and]at hve;obtain⟨rfl,rfl⟩:=hve;have hki:(k:Int) <(ops.length:Int):=by omega
     have hkp:=tY hI0 hVE0 (ops.take k);obtain⟨s1,s2⟩:=yX (aH N) (ops.take k) (ops.getD k yO.z);rw[←cG ops k yO.z hlt]at s1 s2;have hOl:(iS (aH N) (ops.take k)).length=k:=by rw[jO,List.length_take];omega
     have HS1:=aA s1;have HS2:=aA s2;have hx:=hcell wr k (hC.bel.block g hgw') hlt;obtain⟨⟨kind,tree,key,val⟩,hop⟩:∃x,ops.getD k yO.z=x:=⟨_,rfl⟩;rw[hop]at HS1 HS2 hx;obtain⟨x0,x1,x2,x3⟩:=hx;obtain⟨B10,hB10⟩:=eZ (wr.heap.size);obtain⟨wa,hwa⟩:=eZ (wr.alloc (.cells #[.int .i64 kind,.int .i64 tree,.string key,.string val] 63));have hba1:=bAl hwa;have ia:=iNw hwa hB10;have z0:wa.cell? ⟨B10,0,none⟩=some (.int .i64 kind):=ia.c rfl;have z1:wa.cell? ⟨B10,1,none⟩=some (.int .i64 tree):=ia.c rfl;have z2:wa.cell? ⟨B10,2,none⟩=some (.string key):=ia.c rfl;have z3:wa.cell? ⟨B10,3,none⟩=some (.string val):=ia.c rfl;have hSa:=hS.below hba1;have hAa:=hC.an.of (hba1.block _ hC.an.lt);have hba0:Bl w wa:=hC.bel.trans (hba1.mono hC.bel.size);have hal:=aJG (l:=iS (aH N) (ops.take k)) (n:=ops.length) (by omega);have HAS:=aA (fun a=>aJE (l:=iS (aH N) (ops.take k)) (n:=ops.length) (by omega) a);have hInv:=hkp.inv;obtain⟨F,hF⟩:=eZ (jL (aH N) (ops.take k));rw[hF]at HS1 HS2 hInv hSa;obtain⟨lA,hlA⟩:=eZ (iS (aH N) (ops.take k));rw[hlA]at HS2 hAa hOl hal HAS;rw[hOl]at HAS;have HAA:=aA hAa;have hgr:ga<wa.heap.size:=hAa.lt;clear hcell hkp s1 s2 hC hS hF hop hlA hAa;go_wp2_with fail;refine(aMA wa ρ P A F J kind tree key val hSa hInv).mono ?_;rintro e wb ⟨rfl,ρb,Ab,Jb,hSb,hFb,hrol⟩;have hAb:=HAA.out.frm hFb (fun q=>q hrg);have hbb0:Bl w wb:=hba0.trans (hFb.below hba0.size fun g q=>Nat.le_of_not_lt fun ql=>q (hrw g ql));have y0:=hAb.cell (k*3);have y1:=hAb.cell (k*3+1);have y2:=hAb.cell (k*3+2);have ya:∀j,j<3→(yA.row (anP lA ops.length))[k*3+j]?=(aDG ((anP lA ops.length).getD k yA.z))[j]?:=fun j hj=>yA.at (anP lA ops.length) (i:=k) (j:=j) (by omega) hj;rw[show(yA.row (anP lA ops.length))[k*3]?=_ from ya 0 (by omega)]at y0;rw[ya 1 (by omega)]at y1;rw[ya 2 (by omega)]at y2;have q0:=hAb.frozen (k*3);have q1:=hAb.frozen (k*3+1);have q2:=hAb.frozen (k*3+2);obtain⟨⟨t0,t1,t2⟩,hte⟩:∃x,(anP lA ops.length).getD k yA.z=x:=⟨_,rfl⟩;rw[hte]at y0 y1 y2;simp only[aDG,List.getElem?_cons_zero,List.getElem?_cons_succ]at y0 y1 y2;have HSB:=aA hSb;generalize hR:doM F kind tree key val=R at *;obtain⟨G,x,y,z⟩:=R;simp only[bO];have hset:=aIG hAb (i:=k) (by omega) x y z;rw[HAS.out]at hset;have FW:Frm (fun q=>q=ga) wb (((wb.setCell ⟨ga,k*3,none⟩ (.int .i64 x)).setCell ⟨ga,k*3+1,none⟩ (.int .i64 y)).setCell ⟨ga,k*3+2,none⟩ (.string z)):=
      ((Frm.set (S:=fun q=>q=ga) wb (p:=⟨ga,k*3,none⟩) rfl _).trans (Frm.set (S:=fun q=>q=ga) _ (p:=⟨ga,k*3+1,none⟩) rfl _)).trans (Frm.set (S:=fun q=>q=ga) _ (p:=⟨ga,k*3+2,none⟩) rfl _)
     obtain⟨W5,hW5⟩:=eZ (((wb.setCell ⟨ga,k*3,none⟩ (.int .i64 x)).setCell ⟨ga,k*3+1,none⟩ (.int .i64 y)).setCell ⟨ga,k*3+2,none⟩ (.string z));rw[hW5]at hset FW;have hrg':ρb ga=0:=hrol ga hgr hrg;have HNX:Hid (GrI w (aH N) ops P ga (k+1) W5):=⟨⟨ρb,Ab,Jb,by rw[HS1.out];exact HSB.out.frm (FW.wide fun q _ e=>by rw[e];exact hrg'),fun q hq=>hrol q (lL hq hba0.size) (hrw q hq),hrg'⟩,by rw[HS2.out];exact hset,hbb0.trans (FW.below hbb0.size fun g e=>by rw[e];exact hgw)⟩;clear hset FW hAb hSb HSB HAS HS1 HS2 hFb HAA ya hte hrol hR;go_wp2;go_roundw
     case rel=>exact⟨k+1,by omega,by go_num,HNX.out⟩
     case measure=>simp[intOf];omega
    ·obtain rfl:k=ops.length:=by omega
     have HFI:Hid (aKC w (N:Int) ops (.returned (.tuple #[.pointer (some ⟨P,0,none⟩),.slice (some ⟨ga,0,none⟩) ops.length ops.length,.int .i64 0])) wr):=by
      have e:ops.take ops.length=ops:=List.take_of_length_le (nR _);have ea:anP (iS (aH N) ops) ops.length=iS (aH N) ops:=by unfold anP;rw[jO];simp
      refine⟨fun q=>(by rw[HIN.out]at q;cases q),fun _ q=>absurd q h2,fun _ _=>?_,hC.bel⟩;rw[HNE.out];refine⟨P,ga,ρ,A,J,rfl,?_,hrw,?_,hrg,hgw⟩
      ·rw[e]at hS;exact hS
      ·have:=hC.an;rw[e,ea]at this;exact this
     clear hC hS;go_wp2;refine bodyPost_ret (v:=.tuple #[.pointer (some ⟨P,0,none⟩),.slice (some ⟨ga,0,none⟩) ops.length ops.length,.int .i64 0]) (by simp[results,Tryz.results36,go_sem]) rfl ?_;exact HFI.out
