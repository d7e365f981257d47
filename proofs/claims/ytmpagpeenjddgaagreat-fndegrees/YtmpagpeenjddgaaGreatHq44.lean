import Derived.Test.YtmpagpeenjddgaaGreatCs2
import Derived.Test.YtmpagpeenjddgaaGreatSq30
set_option maxHeartbeats 9999999
set_option maxRecDepth 99999
set_option linter.all false
namespace Go.Proofs.YtmpagpeenjddgaaGreat
open Go.RowKit Go.Shelf Fo
variable{l:List An}{n:Nat}
theorem aKG{w:World}{g:Nat}(h:IsC w g (yA.row l) 31){i:Nat}(a:i<l.length)(x y:Int)(z:ByteArray):
  IsC (((w.setCell (aD g (i*3)) (iV x)).setCell (aD g (i*3+1)) (iV y)).setCell (aD g (i*3+2)) (.string z)) g (yA.row (l.set i (x,y,z))) 31:=yA.setAt h a (x,y,z)
def anP(l:List An)(n:Nat):List An:=l++List.replicate (n-l.length) yA.z
theorem aLE(h:l.length<=n):(anP l n).length=n:=by unfold anP;simp;omega
theorem aLF(h:l.length<n)(a:An):(anP l n).set l.length a=anP (l++[a]) n:=by
 unfold anP;rw[List.set_append_right _ _ (nR _),Nat.sub_self,show n-l.length=(n -(l++[a]).length)+1 by simp;omega,List.replicate_succ,List.set_cons_zero];simp
structure aLB(w:World)(n:Int)(ops:List TO)(e:Ending)(w':World):Prop where
 dev:inB n 8 512=false->e=.returned (.tuple #[.pointer none,.slice none 0 0,iV 1])
 lim:inB n 8 512=true->2000<ops.length->e=.returned (.tuple #[.pointer none,.slice none 0 0,iV 4])
 ok:inB n 8 512=true->ops.length<=2000->∃P ga ρ A J,e=.returned (.tuple #[pT P 0,sL ga 0 ops.length ops.length,iV 0])/\St w' ρ P A (gX (aJ n.toNat) ops) J/\(∀x,x<w.heap.size->ρ x=0)/\IsC w' ga (yA.row (fJ (aJ n.toNat) ops)) 31/\ρ ga=0/\w.heap.size<=ga
 bk:Bl w w'
structure GrI(w:World)(f0:fZ)(ops:List TO)(P ga k:Nat)(wr:World):Prop where
 st:∃ρ A J,St wr ρ P A (gX f0 (ops.take k)) J/\(∀x,x<w.heap.size->ρ x=0)/\ρ ga=0
 an:IsC wr ga (yA.row (anP (fJ f0 (ops.take k)) ops.length)) 31
 bk:Bl w wr
theorem wW(n:Int)(b:List TO)(v:Value)(w:World)(hv:yO.Sl w v b)(hl:b.length<=1048576):Calls Tryz.prog 19 #[iV n,v] w (aLB w n b):=by
 obtain⟨va,vc,B⟩:=hv.len;have HV:=aA (aI hv B);subst B;clear hv;go_enter Tryz.func19,Tryz.ntmps19;go_wp2_with fail;refine(fC n 8 512 w).mono ?_;rintro e w1' ⟨rfl,rfl⟩;cases t:inB n 8 512 with
 | false=>
  have H:=aA t;clear t;go_wp2;refine bodyPost_ret (v:=.tuple #[.pointer none,.slice none 0 0,iV 1]) (by simp[results,Tryz.results19,go_sem]) rfl ?_;exact⟨fun _=>rfl,fun q=>(by rw[H.out]at q;cases q),fun q=>(by rw[H.out]at q;cases q),bQ _ _⟩
 | true=>
  have H:=aA t;by_cases h2:2000<b.length
  ·have Pi:(2000:Int) <(b.length:Int):=by omega
   clear t;go_wp2;refine bodyPost_ret (v:=.tuple #[.pointer none,.slice none 0 0,iV 4]) (by simp[results,Tryz.results19,go_sem]) rfl ?_;exact⟨fun q=>(by rw[H.out]at q;cases q),fun _ _=>rfl,fun _ q=>absurd q (by omega),bQ _ _⟩
  ·have Pi:¬(2000:Int) <(b.length:Int):=by omega
   have Bq:8<=n/\n<=512:=by unfold inB at t;simpa using t
   obtain⟨N,hN⟩:∃N:Nat,n=(N:Int):=⟨n.toNat,by omega⟩;have Qq:Hid (n.toNat=N):=(show n.toNat=N by omega);subst hN;clear t;have RT:=Inv.fresh (n:=N) (by omega) (by omega);have KE:=pC N;have OT:=fun(W:World)=>yA.make b.length hl W;go_wp2_with fail;refine(qP N (by omega) w).mono ?_;rintro e V ⟨P,r,m,p,c,d,q,rfl,NF,be⟩;obtain⟨ay,qh⟩:=NF.st (by omega);obtain⟨ga,yn⟩:=eZ (V.heap.size);obtain⟨w3,O⟩:=eZ (V.alloc (.cells (yA.row (List.replicate b.length yA.z)) 31));have bg:=bAl O;have i3:=iNw O yn;have TR:(Instr.makeSlice 26 (iV (b.length:Int)) (iV (b.length:Int))).run Tryz.prog V=.ok (sL ga 0 b.length b.length) w3:=by rw[<-O,<-yn];exact OT V
   have yg:w.heap.size<=ga:=by have:=be.size;omega
   have ly:Hid (GrI w (aJ N) b P ga 0 w3):=⟨⟨_,_,_,ay.below bg,qh,ay.bT (Nat.le_of_eq yn)⟩,by simpa [anP,fJ,aGP] using i3,be.trans (bg.mono be.size)⟩;clear ay qh NF i3 OT;go_wp2;go_loopw [24,9,10] (fun i _ _ wr=>∃k:Nat,k<=b.length/\i=iV k/\GrI w (aJ N) b P ga k wr) (fun i _ _ _=>b.length -(intOf i).toNat)
   case atStart=>exact⟨0,by omega,rfl,ly.out⟩
   case round=>
    clear ly O TR;obtain⟨k,hk,rfl,f⟩:=hrel;obtain⟨ρ,A,J,C,ft,Y⟩:=f.st;by_cases ai:k<b.length
    ·obtain⟨g,o,cc,B,Ss,aa⟩:=aKY HV.out.1 (by omega)
     simp only[Value.slice.injEq,true_and]at B;obtain⟨rfl,rfl⟩:=B;have jl:(k:Int) <(b.length:Int):=by omega
     have yi:=kZ RT KE (b.take k);obtain⟨s1,s2⟩:=lN (aJ N) (b.take k) (b.getD k yO.z);rw[<-cO b k yO.z ai]at s1 s2;have IN:(fJ (aJ N) (b.take k)).length=k:=by rw[gQ,List.length_take];omega
     have U:=aA s1;have E:=aA s2;have hx:=aa wr k (f.bk.block g Ss) ai;obtain⟨⟨kind,tree,key,val⟩,Hd⟩:∃x,b.getD k yO.z=x:=⟨_,rfl⟩;rw[Hd]at U E hx;obtain⟨x0,x1,x2,x3⟩:=hx;obtain⟨h,CD⟩:=eZ (wr.heap.size);obtain⟨u,MX⟩:=eZ (wr.alloc (.cells #[iV kind,iV tree,.string key,.string val] 33));have xx:=bAl MX;have Q:=iNw MX CD;have z0:u.cell? (aD h 0)=some (iV kind):=Q.c rfl;have z1:u.cell? (aD h 1)=some (iV tree):=Q.c rfl;have z2:u.cell? (aD h 2)=some (.string key):=Q.c rfl;have z3:u.cell? (aD h 3)=some (.string val):=Q.c rfl;have Ve:=C.below xx;have M:=f.an.of (xx.block _ f.an.lt);have za:Bl w u:=f.bk.trans (xx.mono f.bk.size);have YO:=aLE (l:=fJ (aJ N) (b.take k)) (n:=b.length) (by omega);have L:=aA (fun a=>aLF (l:=fJ (aJ N) (b.take k)) (n:=b.length) (by omega) a);have DU:=yi.inv;obtain⟨F,hF⟩:=eZ (gX (aJ N) (b.take k));rw[hF]at U E DU Ve;obtain⟨D,ON⟩:=eZ (fJ (aJ N) (b.take k));rw[ON]at E M IN YO L;rw[IN]at L;have UE:=aA M;have bh:ga<u.heap.size:=M.lt;clear aa yi s1 s2 f C hF Hd ON M;go_wp2_with fail;refine(aPC u ρ P A F J kind tree key val Ve DU).mono ?_;rintro e I ⟨rfl,ρb,Ab,Jb,Rq,Z,ij⟩;have s:=UE.out.ae Z (fun q=>q Y);have zc:Bl w I:=za.trans (Z.below za.size fun g q=>Nat.le_of_not_lt fun ql=>q (ft g ql));have y0:=s.cell (k*3);have y1:=s.cell (k*3+1);have y2:=s.cell (k*3+2);have X:∀j,j<3->(yA.row (anP D b.length))[k*3+j]?=(aDK ((anP D b.length).getD k yA.z))[j]?:=fun j hj=>yA.at (anP D b.length) (i:=k) (j:=j) (by omega) hj;rw[show(yA.row (anP D b.length))[k*3]?=_ from X 0 (by omega)]at y0;rw[X 1 (by omega)]at y1;rw[X 2 (by omega)]at y2;have q0:=s.frozen (k*3);have q1:=s.frozen (k*3+1);have q2:=s.frozen (k*3+2);obtain⟨⟨t0,t1,t2⟩,Lo⟩:∃x,(anP D b.length).getD k yA.z=x:=⟨_,rfl⟩;rw[Lo]at y0 y1 y2;simp only[aDK,List.getElem?_cons_zero,List.getElem?_cons_succ]at y0 y1 y2;have Uj:=aA Rq;generalize hR:doM F kind tree key val=R at *;obtain⟨G,x,y,z⟩:=R;simp only[bZ];have T:=aKG s (i:=k) (by omega) x y z;rw[L.out]at T;have K:Frm (fun q=>q=ga) I (((I.setCell (aD ga (k*3)) (iV x)).setCell (aD ga (k*3+1)) (iV y)).setCell (aD ga (k*3+2)) (.string z)):=
      ((Frm.set (S:=fun q=>q=ga) I (p:=aD ga (k*3)) rfl _).trans (Frm.set (S:=fun q=>q=ga) _ (p:=aD ga (k*3+1)) rfl _)).trans (Frm.set (S:=fun q=>q=ga) _ (p:=aD ga (k*3+2)) rfl _)
     obtain⟨W5,C8⟩:=eZ (((I.setCell (aD ga (k*3)) (iV x)).setCell (aD ga (k*3+1)) (iV y)).setCell (aD ga (k*3+2)) (.string z));rw[C8]at T K;have Oe:ρb ga=0:=ij ga bh Y;have vu:Hid (GrI w (aJ N) b P ga (k+1) W5):=⟨⟨ρb,Ab,Jb,by rw[U.out];exact Uj.out.ae (K.wide fun q _ e=>by rw[e];exact Oe),fun q hq=>ij q (lL hq za.size) (ft q hq),Oe⟩,by rw[E.out];exact T,zc.trans (K.below zc.size fun g e=>by rw[e];exact yg)⟩;clear T K s Rq Uj L U E Z UE X Lo ij hR;go_wp2;go_roundw
     case rel=>exact⟨k+1,by omega,by go_num,vu.out⟩
     case measure=>simp[intOf];omega
    ·obtain rfl:k=b.length:=by omega
     have Ah:Hid (aLB w (N:Int) b (.returned (.tuple #[pT P 0,sL ga 0 b.length b.length,iV 0])) wr):=by
      have e:b.take b.length=b:=List.take_of_length_le (nR _);have ea:anP (fJ (aJ N) b) b.length=fJ (aJ N) b:=by unfold anP;rw[gQ];simp
      refine⟨fun q=>(by rw[H.out]at q;cases q),fun _ q=>absurd q h2,fun _ _=>?_,f.bk⟩;rw[Qq.out];refine⟨P,ga,ρ,A,J,rfl,?_,ft,?_,Y,yg⟩
      ·rw[e]at C;exact C
      ·have:=f.an;rw[e,ea]at this;exact this
     clear f C;go_wp2;refine bodyPost_ret (v:=.tuple #[pT P 0,sL ga 0 b.length b.length,iV 0]) (by simp[results,Tryz.results19,go_sem]) rfl ?_;exact Ah.out
