import Derived.Test.YtmpagpeenjddgaaGreatEd2
import Derived.Test.YtmpagpeenjddgaaGreatSq30
set_option maxHeartbeats 9999999
set_option maxRecDepth 99999
set_option linter.all false
namespace Go.Proofs.YtmpagpeenjddgaaGreat
open Go.RowKit Go.Shelf Fo
variable{l:List An}{n:Nat}
theorem aJV{w:World}{g:Nat}(h:IsC w g (yA.row l) 31){i:Nat}(a:i<l.length)(x y:Int)(z:ByteArray):
  IsC (((w.setCell ⟨g,i*3,none⟩ (.int .i64 x)).setCell ⟨g,i*3+1,none⟩ (.int .i64 y)).setCell ⟨g,i*3+2,none⟩ (.string z)) g (yA.row (l.set i (x,y,z))) 31:=yA.setAt h a (x,y,z)
def anP(l:List An)(n:Nat):List An:=l++List.replicate (n-l.length) yA.z
theorem aKW(h:l.length<=n):(anP l n).length=n:=by unfold anP;simp;omega
theorem aKX(h:l.length<n)(a:An):(anP l n).set l.length a=anP (l++[a]) n:=by
 unfold anP;rw[List.set_append_right _ _ (nR _),Nat.sub_self,show n-l.length=(n -(l++[a]).length)+1 by simp;omega,List.replicate_succ,List.set_cons_zero];simp
structure aKS(w:World)(n:Int)(ops:List TO)(e:Ending)(w':World):Prop where
 dev:inB n 8 512=false->e=.returned (.tuple #[.pointer none,.slice none 0 0,.int .i64 1])
 lim:inB n 8 512=true->2000<ops.length->e=.returned (.tuple #[.pointer none,.slice none 0 0,.int .i64 4])
 ok:inB n 8 512=true->ops.length<=2000->∃P ga ρ A J,e=.returned (.tuple #[.pointer (some ⟨P,0,none⟩),.slice (some ⟨ga,0,none⟩) ops.length ops.length,.int .i64 0])/\St w' ρ P A (gZ (aH n.toNat) ops) J/\(∀x,x<w.heap.size->ρ x=0)/\IsC w' ga (yA.row (fF (aH n.toNat) ops)) 31/\ρ ga=0/\w.heap.size<=ga
 bb:Bl w w'
structure GrI(w:World)(f0:fZ)(ops:List TO)(P ga k:Nat)(wr:World):Prop where
 st:∃ρ A J,St wr ρ P A (gZ f0 (ops.take k)) J/\(∀x,x<w.heap.size->ρ x=0)/\ρ ga=0
 an:IsC wr ga (yA.row (anP (fF f0 (ops.take k)) ops.length)) 31
 bb:Bl w wr
theorem aDU(n:Int)(b:List TO)(v:Value)(w:World)(hv:yO.Sl w v b)(hl:b.length<=1048576):Calls Tryz.prog 19 #[.int .i64 n,v] w (aKS w n b):=by
 obtain⟨va,vc,B⟩:=hv.len;have HV:=aA (aI hv B);subst B;clear hv;go_enter Tryz.func19,Tryz.ntmps19;go_wp2_with fail;refine(eW n 8 512 w).mono ?_;rintro e w1' ⟨rfl,rfl⟩;cases t:inB n 8 512 with
 | false=>
  have H:=aA t;clear t;go_wp2;refine bodyPost_ret (v:=.tuple #[.pointer none,.slice none 0 0,.int .i64 1]) (by simp[results,Tryz.results19,go_sem]) rfl ?_;exact⟨fun _=>rfl,fun q=>(by rw[H.out]at q;cases q),fun q=>(by rw[H.out]at q;cases q),bQ _ _⟩
 | true=>
  have H:=aA t;by_cases h2:2000<b.length
  ·have O4:(2000:Int) <(b.length:Int):=by omega
   clear t;go_wp2;refine bodyPost_ret (v:=.tuple #[.pointer none,.slice none 0 0,.int .i64 4]) (by simp[results,Tryz.results19,go_sem]) rfl ?_;exact⟨fun q=>(by rw[H.out]at q;cases q),fun _ _=>rfl,fun _ q=>absurd q (by omega),bQ _ _⟩
  ·have O4:¬(2000:Int) <(b.length:Int):=by omega
   have Au:8<=n/\n<=512:=by unfold inB at t;simpa using t
   obtain⟨N,hN⟩:∃N:Nat,n=(N:Int):=⟨n.toNat,by omega⟩;have QB:Hid (n.toNat=N):=(show n.toNat=N by omega);subst hN;clear t;have JN:=Inv.fresh (n:=N) (by omega) (by omega);have Jh:=pD N;have VF:=fun(W:World)=>yA.make b.length hl W;go_wp2_with fail;refine(qQ N (by omega) w).mono ?_;rintro e V ⟨P,r,m,p,c,d,q,rfl,Mg,bh⟩;obtain⟨be,pn⟩:=Mg.st (by omega);obtain⟨ga,xu⟩:=eZ (V.heap.size);obtain⟨w3,O⟩:=eZ (V.alloc (.cells (yA.row (List.replicate b.length yA.z)) 31));have bu:=bAl O;have i3:=iNw O xu;have Sc:(Instr.makeSlice 26 (.int .i64 (b.length:Int)) (.int .i64 (b.length:Int))).run Tryz.prog V=.ok (.slice (some ⟨ga,0,none⟩) b.length b.length) w3:=by rw[<-O,<-xu];exact VF V
   have BR:w.heap.size<=ga:=by have:=bh.size;omega
   have jm:Hid (GrI w (aH N) b P ga 0 w3):=⟨⟨_,_,_,be.below bu,pn,be.bT (Nat.le_of_eq xu)⟩,by simpa [anP,fF,aGL] using i3,bh.trans (bu.mono bh.size)⟩;clear be pn Mg i3 VF;go_wp2;go_loopw [24,9,10] (fun i _ _ wr=>∃k:Nat,k<=b.length/\i=.int .i64 k/\GrI w (aH N) b P ga k wr) (fun i _ _ _=>b.length -(intOf i).toNat)
   case atStart=>exact⟨0,by omega,rfl,jm.out⟩
   case round=>
    clear jm O Sc;obtain⟨k,hk,rfl,f⟩:=hrel;obtain⟨ρ,A,J,C,fu,Y⟩:=f.st;by_cases ak:k<b.length
    ·obtain⟨g,o,cc,B,R4,af⟩:=aER HV.out.1 (by omega)
     simp only[Value.slice.injEq,true_and]at B;obtain⟨rfl,rfl⟩:=B;have kr:(k:Int) <(b.length:Int):=by omega
     have xo:=lC JN Jh (b.take k);obtain⟨s1,s2⟩:=lQ (aH N) (b.take k) (b.getD k yO.z);rw[<-cH b k yO.z ak]at s1 s2;have Hw:(fF (aH N) (b.take k)).length=k:=by rw[gS,List.length_take];omega
     have U:=aA s1;have E:=aA s2;have hx:=af wr k (f.bb.block g R4) ak;obtain⟨⟨kind,tree,key,val⟩,Gn⟩:∃x,b.getD k yO.z=x:=⟨_,rfl⟩;rw[Gn]at U E hx;obtain⟨x0,x1,x2,x3⟩:=hx;obtain⟨h,Bi⟩:=eZ (wr.heap.size);obtain⟨u,L1⟩:=eZ (wr.alloc (.cells #[.int .i64 kind,.int .i64 tree,.string key,.string val] 33));have xj:=bAl L1;have Q:=iNw L1 Bi;have z0:u.cell? ⟨h,0,none⟩=some (.int .i64 kind):=Q.c rfl;have z1:u.cell? ⟨h,1,none⟩=some (.int .i64 tree):=Q.c rfl;have z2:u.cell? ⟨h,2,none⟩=some (.string key):=Q.c rfl;have z3:u.cell? ⟨h,3,none⟩=some (.string val):=Q.c rfl;have Ud:=C.below xj;have L:=f.an.of (xj.block _ f.an.lt);have yr:Bl w u:=f.bb.trans (xj.mono f.bb.size);have XP:=aKW (l:=fF (aH N) (b.take k)) (n:=b.length) (by omega);have M:=aA (fun a=>aKX (l:=fF (aH N) (b.take k)) (n:=b.length) (by omega) a);have DC:=xo.inv;obtain⟨F,hF⟩:=eZ (gZ (aH N) (b.take k));rw[hF]at U E DC Ud;obtain⟨D,Nq⟩:=eZ (fF (aH N) (b.take k));rw[Nq]at E L Hw XP M;rw[Hw]at M;have TT:=aA L;have bo:ga<u.heap.size:=L.lt;clear af xo s1 s2 f C hF Gn Nq L;go_wp2_with fail;refine(aOI u ρ P A F J kind tree key val Ud DC).mono ?_;rintro e I ⟨rfl,ρb,Ab,Jb,Q1,Z,g9⟩;have s:=TT.out.ae Z (fun q=>q Y);have yt:Bl w I:=yr.trans (Z.below yr.size fun g q=>Nat.le_of_not_lt fun ql=>q (fu g ql));have y0:=s.cell (k*3);have y1:=s.cell (k*3+1);have y2:=s.cell (k*3+2);have X:∀j,j<3->(yA.row (anP D b.length))[k*3+j]?=(aDJ ((anP D b.length).getD k yA.z))[j]?:=fun j hj=>yA.at (anP D b.length) (i:=k) (j:=j) (by omega) hj;rw[show(yA.row (anP D b.length))[k*3]?=_ from X 0 (by omega)]at y0;rw[X 1 (by omega)]at y1;rw[X 2 (by omega)]at y2;have q0:=s.frozen (k*3);have q1:=s.frozen (k*3+1);have q2:=s.frozen (k*3+2);obtain⟨⟨t0,t1,t2⟩,LO⟩:∃x,(anP D b.length).getD k yA.z=x:=⟨_,rfl⟩;rw[LO]at y0 y1 y2;simp only[aDJ,List.getElem?_cons_zero,List.getElem?_cons_succ]at y0 y1 y2;have Tv:=aA Q1;generalize hR:doM F kind tree key val=R at *;obtain⟨G,x,y,z⟩:=R;simp only[bW];have T:=aJV s (i:=k) (by omega) x y z;rw[M.out]at T;have K:Frm (fun q=>q=ga) I (((I.setCell ⟨ga,k*3,none⟩ (.int .i64 x)).setCell ⟨ga,k*3+1,none⟩ (.int .i64 y)).setCell ⟨ga,k*3+2,none⟩ (.string z)):=
      ((Frm.set (S:=fun q=>q=ga) I (p:=⟨ga,k*3,none⟩) rfl _).trans (Frm.set (S:=fun q=>q=ga) _ (p:=⟨ga,k*3+1,none⟩) rfl _)).trans (Frm.set (S:=fun q=>q=ga) _ (p:=⟨ga,k*3+2,none⟩) rfl _)
     obtain⟨W5,AG⟩:=eZ (((I.setCell ⟨ga,k*3,none⟩ (.int .i64 x)).setCell ⟨ga,k*3+1,none⟩ (.int .i64 y)).setCell ⟨ga,k*3+2,none⟩ (.string z));rw[AG]at T K;have N6:ρb ga=0:=g9 ga bo Y;have qy:Hid (GrI w (aH N) b P ga (k+1) W5):=⟨⟨ρb,Ab,Jb,by rw[U.out];exact Tv.out.ae (K.wide fun q _ e=>by rw[e];exact N6),fun q hq=>g9 q (lL hq yr.size) (fu q hq),N6⟩,by rw[E.out];exact T,yt.trans (K.below yt.size fun g e=>by rw[e];exact BR)⟩;clear T K s Q1 Tv M U E Z TT X LO g9 hR;go_wp2;go_roundw
     case rel=>exact⟨k+1,by omega,by go_num,qy.out⟩
     case measure=>simp[intOf];omega
    ·obtain rfl:k=b.length:=by omega
     have yh:Hid (aKS w (N:Int) b (.returned (.tuple #[.pointer (some ⟨P,0,none⟩),.slice (some ⟨ga,0,none⟩) b.length b.length,.int .i64 0])) wr):=by
      have e:b.take b.length=b:=List.take_of_length_le (nR _);have ea:anP (fF (aH N) b) b.length=fF (aH N) b:=by unfold anP;rw[gS];simp
      refine⟨fun q=>(by rw[H.out]at q;cases q),fun _ q=>absurd q h2,fun _ _=>?_,f.bb⟩;rw[QB.out];refine⟨P,ga,ρ,A,J,rfl,?_,fu,?_,Y,BR⟩
      ·rw[e]at C;exact C
      ·have:=f.an;rw[e,ea]at this;exact this
     clear f C;go_wp2;refine bodyPost_ret (v:=.tuple #[.pointer (some ⟨P,0,none⟩),.slice (some ⟨ga,0,none⟩) b.length b.length,.int .i64 0]) (by simp[results,Tryz.results19,go_sem]) rfl ?_;exact yh.out
