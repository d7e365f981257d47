import Derived.ProofKit
import Derived.OpenShut
import Derived.ShutString
import Derived.ChangeOld
import Derived.Below
import Derived.Test.YtaahkgkdpnnhhaaGreatSq21
import Derived.Test.YtaahkgkdpnnhhaaGreatCm0
set_option maxHeartbeats 9999999
set_option maxRecDepth 99999
set_option linter.all false
namespace Go.Proofs.YtaahkgkdpnnhhaaGreat
open Go.ChangeShapes Go.WideShapes Go.ChangeAt Go.RowKit
theorem ownQ:ownKnob Tryz.prog.godebug=none:=by kernel_rfl
theorem laidOut:laidOutB Tryz.prog=true:=by kernel_rfl
theorem oY{n:Nat}(h:n≤maxLen):n≤9223372036854775807:=by unfold maxLen at h;omega
end Go.Proofs.YtaahkgkdpnnhhaaGreat
namespace Go.Proofs.YtaahkgkdpnnhhaaGreat
open Go.RowKit Fo
def doM(f:fZ)(kind tree:Int)(key val:ByteArray):fZ×An:=if kind=5 then cP f else opM f kind tree key val
theorem aKB{f:fZ}(h:Inv f)(hV:VE f)(kind tree:Int)(key val:ByteArray):aCJ f (doM f kind tree key val).1:=by
 unfold doM;split
 ·exact aGK h hV
 ·have:=aJX h hV kind tree key val
  exact⟨this.inv,this.ve,this.cur⟩
abbrev TO:=Int×Int×ByteArray×ByteArray
def aFD(f:fZ):List TO→fZ×List An
 | []=>(f,[])
 | o :: l=>let r:=doM f o.1 o.2.1 o.2.2.1 o.2.2.2;let q:=aFD r.1 l;(q.1,r.2 :: q.2)
def jL(f:fZ)(l:List TO):fZ:=(aFD f l).1
def iS(f:fZ)(l:List TO):List An:=(aFD f l).2
theorem yX(f:fZ)(l:List TO)(o:TO):jL f (l++[o])=(doM (jL f l) o.1 o.2.1 o.2.2.1 o.2.2.2).1∧iS f (l++[o])=iS f l++[(doM (jL f l) o.1 o.2.1 o.2.2.1 o.2.2.2).2]:=by
 induction l generalizing f with
 | nil=>simp[jL,iS,aFD]
 | cons p l ih=>
  have:=ih (doM f p.1 p.2.1 p.2.2.1 p.2.2.2).1
  simp only[jL,iS,aFD,List.cons_append]at this ⊢;exact⟨this.1,by rw[this.2]⟩
theorem tY{f:fZ}(h:Inv f)(hV:VE f)(l:List TO):aCJ f (jL f l):=by
 induction l generalizing f with
 | nil=>exact⟨h,hV,rfl⟩
 | cons p l ih=>
  have k:=aKB h hV p.1 p.2.1 p.2.2.1 p.2.2.2;have:=ih k.inv k.ve;exact⟨this.inv,this.ve,this.cur.trans k.cur⟩
theorem jO(f:fZ)(l:List TO):(iS f l).length=l.length:=by
 induction l generalizing f with
 | nil=>rfl
 | cons p l ih=>exact congrArg (·+1) (ih _)
end Go.Proofs.YtaahkgkdpnnhhaaGreat
namespace Go.Proofs.YtaahkgkdpnnhhaaGreat
open Go.RowKit Go.Shelf Fo
theorem aHP{f:fZ}{kind tree:Int}{key val:ByteArray}(h:(aX f kind tree key val).2=0):kind=1∨kind=2∨kind=3∨kind=4∨kind=5∨kind=6:=by
 unfold aX at h;split at h
 ·simp at h
 ·rename_i q
  have:inB kind 1 6=true:=by simpa using q
  unfold inB at this;have:=of_decide_eq_true this;omega
theorem aAY{f:fZ}{tree:Int}{key val:ByteArray}:aX f 5 tree key val=(0,0):=by
 unfold aX;rw[if_neg (by simp[inB]),if_pos rfl]
theorem aLC{f:fZ}{kind tree:Int}{key val:ByteArray}{c:Int}(hc:(aX f kind tree key val).2=c)(h:c≠0):doM f kind tree key val=(f,c,0,.empty):=by
 subst hc;unfold doM;rw[if_neg (fun e=>by subst e;rw[aAY]at h;exact h rfl)];unfold opM;rw[if_pos h]
theorem aMA(w:World)(ρ:Nat→Nat)(P:Nat)(A:Adr)(f:fZ)(J:List aR)(kind tree:Int)(key val:ByteArray)(h:St w ρ P A f J)(hI:Inv f):
  Calls Tryz.prog 57 #[.pointer (some ⟨P,0,none⟩),.agg #[.int .i64 kind,.int .i64 tree,.string key,.string val]] w (DoP w ρ P (doM f kind tree key val)):=by
 have hb0:=jX;obtain⟨ob,hob⟩:=eZ (w.heap.size);obtain⟨w1,hw1⟩:=eZ (w.alloc (.cells #[.int .i64 kind,.int .i64 tree,.string key,.string val] 63));obtain⟨rb,hrb⟩:=eZ (w1.heap.size);obtain⟨w2,hw2⟩:=eZ (w1.alloc (.cells #[.int .i64 0,.int .i64 0,.string {data:=#[]}] 92));have B1:=bAl hw1;have B12:=bAl hw2;have B2:=B1.trans (B12.mono B1.size);have k1:=iNw hw1 hob;have k2:=k1.of (B12.block _ k1.lt);have r2:=iNw hw2 hrb;have hS2:=h.below B2;have hrr:ρ rb=0:=h.no0 (by have:=B1.size;omega);have o0:w2.cell? ⟨ob,0,none⟩=some (.int .i64 kind):=k2.c rfl;have o1:w2.cell? ⟨ob,1,none⟩=some (.int .i64 tree):=k2.c rfl;have o2:w2.cell? ⟨ob,2,none⟩=some (.string key):=k2.c rfl;have o3:w2.cell? ⟨ob,3,none⟩=some (.string val):=k2.c rfl;go_enter Tryz.func57,Tryz.ntmps57;go_wp2_with fail;refine(aHZ w2 ρ P A f J kind tree key val hS2 hI hI.sz).mono ?_;rintro e w3 ⟨rfl,hB3⟩;have B3:=B2.trans (hB3.mono B2.size);have k3:=k2.of (hB3.block _ k2.lt);have r3:=r2.of (hB3.block _ r2.lt);have hS3:=h.below B3;have ht:=xX hI (kind:=kind) (tree:=tree) (key:=key) (val:=val);have HNO:=aA (fun c=>aLC (f:=f) (kind:=kind) (tree:=tree) (key:=key) (val:=val) (c:=c));have HIN:=aA (aHP (f:=f) (kind:=kind) (tree:=tree) (key:=key) (val:=val));obtain⟨t,hte⟩:=eZ ((aX f kind tree key val).1);obtain⟨c,hce⟩:=eZ ((aX f kind tree key val).2);rw[hte]at ht;rw[hte,hce];have HTE:=aA hte;have HCE:=aA hce;clear hte hce o0 o1 o2 o3;have o0:w3.cell? ⟨ob,0,none⟩=some (.int .i64 kind):=k3.c rfl;have o2:w3.cell? ⟨ob,2,none⟩=some (.string key):=k3.c rfl;have o3:w3.cell? ⟨ob,3,none⟩=some (.string val):=k3.c rfl;have HFN:Hid (∀(r:fZ×An) (ρ':Nat→Nat) (A':Adr) (J':List aR) (w8 w9:World),doM f kind tree key val=r→St w8 ρ' P A' r.1 J'→Frm (fun k=>ρ k≠0) w3 w8→(∀x,x<w3.heap.size→ρ x=0→ρ' x=0)→Frm (fun x=>x=rb) w8 w9→DoP w ρ P (doM f kind tree key val) (.returned (bO r.2)) w9):=fun r ρ' A' J' w8 w9 hr hS hF8 hrol hF9=>by
  rw[hr];exact⟨rfl,ρ',A',J',hS.frm (hF9.wide fun x _ q=>by rw[q];exact hrol rb r3.lt hrr),((Frm.of_below B3).trans hF8).next hF9 fun x hx q=>absurd q (by have:=B1.size;omega),fun x hx h0=>hrol x (lL hx B3.size) h0⟩
 by_cases hc:c=0
 ·subst hc
  have hop:kind≠5→doM f kind tree key val=(if kind=1 then lY f t key val else if kind=2 then mW f t key else if kind=3 then lZ f t else if kind=4 then oN f t else nZ f t key):=fun q=>by
   unfold doM;rw[if_neg q];unfold opM;rw[if_neg (by rw[HCE.out];simp),HTE.out]
  have HOP:=aA hop;clear hop;rcases HIN.out HCE.out with rfl | rfl | rfl | rfl | rfl | rfl
  ·have HM:Hid (doM f 1 tree key val=lY f t key val):=by have:=HOP.out (by omega);simp at this;exact this
   clear HOP HIN HNO;go_wp2_with fail;refine(aGV w3 ρ P A f J t key val hS3 hI ht).mono ?_;rintro e w4 ⟨rfl,ρ4,A4,J4,hS4,hF4,hrol⟩;have r4:=r3.frm hF4 (fun q=>q hrr);have e0:w4.cell? ⟨rb,0,none⟩=some (.int .i64 0):=r4.c rfl;have e1:w4.cell? ⟨rb,1,none⟩=some (.int .i64 0):=r4.c rfl;have e2:w4.cell? ⟨rb,2,none⟩=some (.string {data:=#[]}):=r4.c rfl;have q0:=r4.frozen 0;have q1:=r4.frozen 1;have q2:=r4.frozen 2;have HFM:=aA (fun w9=>HFN.out _ ρ4 A4 J4 w4 w9 HM.out hS4 hF4 hrol);clear HM hS4 HFN;generalize (lY f t key val)=r at *;obtain⟨g,x,y,z⟩:=r;simp only[bO]at HFM ⊢;clear k3 k2 k1 r3 r4;go_wp2;refine bodyPost_ret (v:=.agg #[.int .i64 x,.int .i64 y,.string z]) (by simp[bO,results,Tryz.results57,go_sem,e0,e1,e2];try rfl) rfl ?_;exact HFM.out _ (fA _ _ _ _ _)
  ·have HM:Hid (doM f 2 tree key val=mW f t key):=by have:=HOP.out (by omega);simp at this;exact this
   clear HOP HIN HNO;go_wp2_with fail;refine(zS w3 ρ P A f J t key hS3 hI ht).mono ?_;rintro e w4 ⟨rfl,ρ4,A4,J4,hS4,hF4,hrol⟩;have r4:=r3.frm hF4 (fun q=>q hrr);have e0:w4.cell? ⟨rb,0,none⟩=some (.int .i64 0):=r4.c rfl;have e1:w4.cell? ⟨rb,1,none⟩=some (.int .i64 0):=r4.c rfl;have e2:w4.cell? ⟨rb,2,none⟩=some (.string {data:=#[]}):=r4.c rfl;have q0:=r4.frozen 0;have q1:=r4.frozen 1;have q2:=r4.frozen 2;have HFM:=aA (fun w9=>HFN.out _ ρ4 A4 J4 w4 w9 HM.out hS4 hF4 hrol);clear HM hS4 HFN;generalize (mW f t key)=r at *;obtain⟨g,x,y,z⟩:=r;simp only[bO]at HFM ⊢;clear k3 k2 k1 r3 r4;go_wp2;refine bodyPost_ret (v:=.agg #[.int .i64 x,.int .i64 y,.string z]) (by simp[bO,results,Tryz.results57,go_sem,e0,e1,e2];try rfl) rfl ?_;exact HFM.out _ (fA _ _ _ _ _)
  ·have HM:Hid (doM f 3 tree key val=lZ f t):=by have:=HOP.out (by omega);simp at this;exact this
   clear HOP HIN HNO;go_wp2_with fail;refine(aBY w3 ρ P A f J t hS3 hI ht).mono ?_;rintro e w4 ⟨rfl,ρ4,A4,J4,hS4,hF4,hrol⟩;have r4:=r3.frm hF4 (fun q=>q hrr);have e0:w4.cell? ⟨rb,0,none⟩=some (.int .i64 0):=r4.c rfl;have e1:w4.cell? ⟨rb,1,none⟩=some (.int .i64 0):=r4.c rfl;have e2:w4.cell? ⟨rb,2,none⟩=some (.string {data:=#[]}):=r4.c rfl;have q0:=r4.frozen 0;have q1:=r4.frozen 1;have q2:=r4.frozen 2;have HFM:=aA (fun w9=>HFN.out _ ρ4 A4 J4 w4 w9 HM.out hS4 hF4 hrol);clear HM hS4 HFN;generalize (lZ f t)=r at *;obtain⟨g,x,y,z⟩:=r;simp only[bO]at HFM ⊢;clear k3 k2 k1 r3 r4;go_wp2;refine bodyPost_ret (v:=.agg #[.int .i64 x,.int .i64 y,.string z]) (by simp[bO,results,Tryz.results57,go_sem,e0,e1,e2];try rfl) rfl ?_;exact HFM.out _ (fA _ _ _ _ _)
  ·have HM:Hid (doM f 4 tree key val=oN f t):=by have:=HOP.out (by omega);simp at this;exact this
   clear HOP HIN HNO;go_wp2_with fail;refine(aFJ w3 ρ P A f J t hS3 hI ht).mono ?_;rintro e w4 ⟨rfl,ρ4,A4,J4,hS4,hF4,hrol⟩;have r4:=r3.frm hF4 (fun q=>q hrr);have e0:w4.cell? ⟨rb,0,none⟩=some (.int .i64 0):=r4.c rfl;have e1:w4.cell? ⟨rb,1,none⟩=some (.int .i64 0):=r4.c rfl;have e2:w4.cell? ⟨rb,2,none⟩=some (.string {data:=#[]}):=r4.c rfl;have q0:=r4.frozen 0;have q1:=r4.frozen 1;have q2:=r4.frozen 2;have HFM:=aA (fun w9=>HFN.out _ ρ4 A4 J4 w4 w9 HM.out hS4 hF4 hrol);clear HM hS4 HFN;generalize (oN f t)=r at *;obtain⟨g,x,y,z⟩:=r;simp only[bO]at HFM ⊢;clear k3 k2 k1 r3 r4;go_wp2;refine bodyPost_ret (v:=.agg #[.int .i64 x,.int .i64 y,.string z]) (by simp[bO,results,Tryz.results57,go_sem,e0,e1,e2];try rfl) rfl ?_;exact HFM.out _ (fA _ _ _ _ _)
  ·have HM:Hid (doM f 5 tree key val=cP f):=by unfold doM;rw[if_pos rfl];rfl
   clear HOP HIN HNO;go_wp2_with fail;refine(zO w3 ρ P A f J hS3 hI).mono ?_;rintro e w4 ⟨rfl,ρ4,A4,J4,hS4,hF4,hrol⟩;have r4:=r3.frm hF4 (fun q=>q hrr);have e0:w4.cell? ⟨rb,0,none⟩=some (.int .i64 0):=r4.c rfl;have e1:w4.cell? ⟨rb,1,none⟩=some (.int .i64 0):=r4.c rfl;have e2:w4.cell? ⟨rb,2,none⟩=some (.string {data:=#[]}):=r4.c rfl;have q0:=r4.frozen 0;have q1:=r4.frozen 1;have q2:=r4.frozen 2;have HFM:=aA (fun w9=>HFN.out _ ρ4 A4 J4 w4 w9 HM.out hS4 hF4 hrol);clear HM hS4 HFN;generalize (cP f)=r at *;obtain⟨g,x,y,z⟩:=r;simp only[bO]at HFM ⊢;clear k3 k2 k1 r3 r4;go_wp2;refine bodyPost_ret (v:=.agg #[.int .i64 x,.int .i64 y,.string z]) (by simp[bO,results,Tryz.results57,go_sem,e0,e1,e2];try rfl) rfl ?_;exact HFM.out _ (fA _ _ _ _ _)
  ·have HM:Hid (doM f 6 tree key val=nZ f t key):=by have:=HOP.out (by omega);simp at this;exact this
   clear HOP HIN HNO;go_wp2_with fail;refine(aGJ w3 ρ P A f J t key hS3 hI ht).mono ?_;rintro e w4 ⟨rfl,ρ4,A4,J4,hS4,hF4,hrol⟩;have r4:=r3.frm hF4 (fun q=>q hrr);have e0:w4.cell? ⟨rb,0,none⟩=some (.int .i64 0):=r4.c rfl;have e1:w4.cell? ⟨rb,1,none⟩=some (.int .i64 0):=r4.c rfl;have e2:w4.cell? ⟨rb,2,none⟩=some (.string {data:=#[]}):=r4.c rfl;have q0:=r4.frozen 0;have q1:=r4.frozen 1;have q2:=r4.frozen 2;have HFM:=aA (fun w9=>HFN.out _ ρ4 A4 J4 w4 w9 HM.out hS4 hF4 hrol);clear HM hS4 HFN;generalize (nZ f t key)=r at *;obtain⟨g,x,y,z⟩:=r;simp only[bO]at HFM ⊢;clear k3 k2 k1 r3 r4;go_wp2;refine bodyPost_ret (v:=.agg #[.int .i64 x,.int .i64 y,.string z]) (by simp[bO,results,Tryz.results57,go_sem,e0,e1,e2];try rfl) rfl ?_;exact HFM.out _ (fA _ _ _ _ _)
 ·have HM:=aA (HNO.out c HCE.out hc)
  have e0:w3.cell? ⟨rb,0,none⟩=some (.int .i64 0):=r3.c rfl;have e1:w3.cell? ⟨rb,1,none⟩=some (.int .i64 0):=r3.c rfl;have e2:w3.cell? ⟨rb,2,none⟩=some (.string {data:=#[]}):=r3.c rfl;have q0:=r3.frozen 0;have q1:=r3.frozen 1;have q2:=r3.frozen 2;have HFM:=aA (fun w9=>HFN.out _ ρ A J w3 w9 HM.out hS3 (Frm.refl _ _) (fun _ _ q=>q));clear HNO HIN HM;go_wp2;refine bodyPost_ret (v:=bO (c,0,.empty)) (by simp[bO,results,Tryz.results57,go_sem,e0,e1,e2];try rfl) rfl ?_;exact HFM.out _ (fA _ _ _ _ _)
