import Derived.ProofKit
import Derived.OpenShut
import Derived.ShutString
import Derived.ChangeOld
import Derived.Below
import Derived.Test.YtaahkgkdpnnhhaaGreatSq23
import Derived.Test.YtaahkgkdpnnhhaaGreatCm0
set_option maxHeartbeats 9999999
set_option maxRecDepth 99999
set_option linter.all false
namespace Go.Proofs.YtaahkgkdpnnhhaaGreat
open Go.ChangeShapes Go.WideShapes Go.ChangeAt Go.RowKit
theorem ownQ:ownKnob Tryz.prog.godebug=none:=by kernel_rfl
theorem laidOut:laidOutB Tryz.prog=true:=by kernel_rfl
theorem oY{n:Nat}(h:n≤maxLen):n≤9223372036854775807:=by unfold maxLen at h;omega
end Go.Proofs.YtaahkgkdpnnhhaaGreat
namespace Go.Proofs.YtaahkgkdpnnhhaaGreat
open Go.RowKit Fo
variable{f:fZ}
def doM(f:fZ)(kind tree:Int)(key val:ByteArray):fZ×An:=if kind=5 then cS f else opM f kind tree key val
theorem aJM(h:Inv f)(hV:VE f)(kind tree:Int)(key val:ByteArray):aCB f (doM f kind tree key val).1:=by
 unfold doM;split
 ·exact aGS h hV
 ·have:=aJN h hV kind tree key val
  exact⟨this.inv,this.ve,this.cur⟩
abbrev TO:=Int×Int×ByteArray×ByteArray
def aEP(f:fZ):List TO→fZ×List An
 | []=>(f,[])
 | o :: l=>let r:=doM f o.1 o.2.1 o.2.2.1 o.2.2.2;let q:=aEP r.1 l;(q.1,r.2 :: q.2)
def jN(f:fZ)(l:List TO):fZ:=(aEP f l).1
def iR(f:fZ)(l:List TO):List An:=(aEP f l).2
theorem zN(f:fZ)(l:List TO)(o:TO):jN f (l++[o])=(doM (jN f l) o.1 o.2.1 o.2.2.1 o.2.2.2).1∧iR f (l++[o])=iR f l++[(doM (jN f l) o.1 o.2.1 o.2.2.1 o.2.2.2).2]:=by
 induction l generalizing f with
 | nil=>simp[jN,iR,aEP]
 | cons p l ih=>
  have:=ih (doM f p.1 p.2.1 p.2.2.1 p.2.2.2).1
  simp only[jN,iR,aEP,List.cons_append]at this ⊢;exact⟨this.1,by rw[this.2]⟩
theorem rZ(h:Inv f)(hV:VE f)(l:List TO):aCB f (jN f l):=by
 induction l generalizing f with
 | nil=>exact⟨h,hV,rfl⟩
 | cons p l ih=>
  have k:=aJM h hV p.1 p.2.1 p.2.2.1 p.2.2.2;have:=ih k.inv k.ve;exact⟨this.inv,this.ve,this.cur.trans k.cur⟩
theorem lC(f:fZ)(l:List TO):(iR f l).length=l.length:=by
 induction l generalizing f with
 | nil=>rfl
 | cons p l ih=>exact congrArg (·+1) (ih _)
end Go.Proofs.YtaahkgkdpnnhhaaGreat
namespace Go.Proofs.YtaahkgkdpnnhhaaGreat
open Go.RowKit Go.Shelf Fo
variable{key val:ByteArray}{kind tree:Int}{f:fZ}
theorem aFL(h:(aY f kind tree key val).2=0):kind=1∨kind=2∨kind=3∨kind=4∨kind=5∨kind=6:=by
 unfold aY at h;split at h
 ·simp at h
 ·rename_i q
  have:inB kind 1 6=true:=by simpa using q
  unfold inB at this;have:=of_decide_eq_true this;omega
theorem aAB:aY f 5 tree key val=(0,0):=by
 unfold aY;rw[if_neg (by simp[inB]),if_pos rfl]
theorem aLG{c:Int}(hc:(aY f kind tree key val).2=c)(h:c≠0):doM f kind tree key val=(f,c,0,.empty):=by
 subst hc;unfold doM;rw[if_neg (fun e=>by subst e;rw[aAB]at h;exact h rfl)];unfold opM;rw[if_pos h]
theorem aMC(w:World)(ρ:Nat→Nat)(P:Nat)(A:Adr)(f:fZ)(J:List aQ)(kind tree:Int)(key val:ByteArray)(h:St w ρ P A f J)(hI:Inv f):
  Calls Tryz.prog 57 #[.pointer (some ⟨P,0,none⟩),.agg #[.int .i64 kind,.int .i64 tree,.string key,.string val]] w (DoP w ρ P (doM f kind tree key val)):=by
 have ik:=jP;obtain⟨ob,Wr⟩:=eZ (w.heap.size);obtain⟨w1,be⟩:=eZ (w.alloc (.cells #[.int .i64 kind,.int .i64 tree,.string key,.string val] 63));obtain⟨rb,fk⟩:=eZ (w1.heap.size);obtain⟨w2,bw⟩:=eZ (w1.alloc (.cells #[.int .i64 0,.int .i64 0,.string {data:=#[]}] 92));have B1:=bAl be;have B12:=bAl bw;have B2:=B1.trans (B12.mono B1.size);have k1:=iNw be Wr;have k2:=k1.of (B12.block _ k1.lt);have r2:=iNw bw fk;have ax:=h.below B2;have nu:ρ rb=0:=h.no0 (by have:=B1.size;omega);have o0:w2.cell? ⟨ob,0,none⟩=some (.int .i64 kind):=k2.c rfl;have o1:w2.cell? ⟨ob,1,none⟩=some (.int .i64 tree):=k2.c rfl;have o2:w2.cell? ⟨ob,2,none⟩=some (.string key):=k2.c rfl;have o3:w2.cell? ⟨ob,3,none⟩=some (.string val):=k2.c rfl;go_enter Tryz.func57,Tryz.ntmps57;go_wp2_with fail;refine(aFM w2 ρ P A f J kind tree key val ax hI hI.sz).mono ?_;rintro e w3 ⟨rfl,fj⟩;have B3:=B2.trans (fj.mono B2.size);have k3:=k2.of (fj.block _ k2.lt);have r3:=r2.of (fj.block _ r2.lt);have cq:=h.below B3;have ht:=xP hI (kind:=kind) (tree:=tree) (key:=key) (val:=val);have DU:=aA (fun c=>aLG (f:=f) (kind:=kind) (tree:=tree) (key:=key) (val:=val) (c:=c));have qm:=aA (aFL (f:=f) (kind:=kind) (tree:=tree) (key:=key) (val:=val));obtain⟨t,C7⟩:=eZ ((aY f kind tree key val).1);obtain⟨c,CS⟩:=eZ ((aY f kind tree key val).2);rw[C7]at ht;rw[C7,CS];have Uv:=aA C7;have ts:=aA CS;clear C7 CS o0 o1 o2 o3;have o0:w3.cell? ⟨ob,0,none⟩=some (.int .i64 kind):=k3.c rfl;have o2:w3.cell? ⟨ob,2,none⟩=some (.string key):=k3.c rfl;have o3:w3.cell? ⟨ob,3,none⟩=some (.string val):=k3.c rfl;have uy:Hid (∀(r:fZ×An) (ρ':Nat→Nat) (A':Adr) (J':List aQ) (w8 w9:World),doM f kind tree key val=r→St w8 ρ' P A' r.1 J'→Frm (fun k=>ρ k≠0) w3 w8→(∀x,x<w3.heap.size→ρ x=0→ρ' x=0)→Frm (fun x=>x=rb) w8 w9→DoP w ρ P (doM f kind tree key val) (.returned (bN r.2)) w9):=fun r ρ' A' J' w8 w9 hr hS yu gw vz=>by
  rw[hr];exact⟨rfl,ρ',A',J',hS.frm (vz.wide fun x _ q=>by rw[q];exact gw rb r3.lt nu),((Frm.of_below B3).trans yu).next vz fun x hx q=>absurd q (by have:=B1.size;omega),fun x hx h0=>gw x (lL hx B3.size) h0⟩
 by_cases hc:c=0
 ·subst hc
  have GE:kind≠5→doM f kind tree key val=(if kind=1 then lV f t key val else if kind=2 then mF f t key else if kind=3 then lU f t else if kind=4 then nC f t else nH f t key):=fun q=>by
   unfold doM;rw[if_neg q];unfold opM;rw[if_neg (by rw[ts.out];simp),Uv.out]
  have qx:=aA GE;clear GE;rcases qm.out ts.out with rfl | rfl | rfl | rfl | rfl | rfl
  ·have HM:Hid (doM f 1 tree key val=lV f t key val):=by have:=qx.out (by omega);simp at this;exact this
   clear qx qm DU;go_wp2_with fail;refine(aGE w3 ρ P A f J t key val cq hI ht).mono ?_;rintro e w4 ⟨rfl,ρ4,A4,J4,aw,jm,gw⟩;have r4:=r3.frm jm (fun q=>q nu);have e0:w4.cell? ⟨rb,0,none⟩=some (.int .i64 0):=r4.c rfl;have e1:w4.cell? ⟨rb,1,none⟩=some (.int .i64 0):=r4.c rfl;have e2:w4.cell? ⟨rb,2,none⟩=some (.string {data:=#[]}):=r4.c rfl;have q0:=r4.frozen 0;have q1:=r4.frozen 1;have q2:=r4.frozen 2;have ws:=aA (fun w9=>uy.out _ ρ4 A4 J4 w4 w9 HM.out aw jm gw);clear HM aw uy;generalize (lV f t key val)=r at *;obtain⟨g,x,y,z⟩:=r;simp only[bN]at ws ⊢;clear k3 k2 k1 r3 r4;go_wp2;refine bodyPost_ret (v:=.agg #[.int .i64 x,.int .i64 y,.string z]) (by simp[bN,results,Tryz.results57,go_sem,e0,e1,e2];try rfl) rfl ?_;exact ws.out _ (fA _ _ _ _ _)
  ·have HM:Hid (doM f 2 tree key val=mF f t key):=by have:=qx.out (by omega);simp at this;exact this
   clear qx qm DU;go_wp2_with fail;refine(yG w3 ρ P A f J t key cq hI ht).mono ?_;rintro e w4 ⟨rfl,ρ4,A4,J4,aw,jm,gw⟩;have r4:=r3.frm jm (fun q=>q nu);have e0:w4.cell? ⟨rb,0,none⟩=some (.int .i64 0):=r4.c rfl;have e1:w4.cell? ⟨rb,1,none⟩=some (.int .i64 0):=r4.c rfl;have e2:w4.cell? ⟨rb,2,none⟩=some (.string {data:=#[]}):=r4.c rfl;have q0:=r4.frozen 0;have q1:=r4.frozen 1;have q2:=r4.frozen 2;have ws:=aA (fun w9=>uy.out _ ρ4 A4 J4 w4 w9 HM.out aw jm gw);clear HM aw uy;generalize (mF f t key)=r at *;obtain⟨g,x,y,z⟩:=r;simp only[bN]at ws ⊢;clear k3 k2 k1 r3 r4;go_wp2;refine bodyPost_ret (v:=.agg #[.int .i64 x,.int .i64 y,.string z]) (by simp[bN,results,Tryz.results57,go_sem,e0,e1,e2];try rfl) rfl ?_;exact ws.out _ (fA _ _ _ _ _)
  ·have HM:Hid (doM f 3 tree key val=lU f t):=by have:=qx.out (by omega);simp at this;exact this
   clear qx qm DU;go_wp2_with fail;refine(aAP w3 ρ P A f J t cq hI ht).mono ?_;rintro e w4 ⟨rfl,ρ4,A4,J4,aw,jm,gw⟩;have r4:=r3.frm jm (fun q=>q nu);have e0:w4.cell? ⟨rb,0,none⟩=some (.int .i64 0):=r4.c rfl;have e1:w4.cell? ⟨rb,1,none⟩=some (.int .i64 0):=r4.c rfl;have e2:w4.cell? ⟨rb,2,none⟩=some (.string {data:=#[]}):=r4.c rfl;have q0:=r4.frozen 0;have q1:=r4.frozen 1;have q2:=r4.frozen 2;have ws:=aA (fun w9=>uy.out _ ρ4 A4 J4 w4 w9 HM.out aw jm gw);clear HM aw uy;generalize (lU f t)=r at *;obtain⟨g,x,y,z⟩:=r;simp only[bN]at ws ⊢;clear k3 k2 k1 r3 r4;go_wp2;refine bodyPost_ret (v:=.agg #[.int .i64 x,.int .i64 y,.string z]) (by simp[bN,results,Tryz.results57,go_sem,e0,e1,e2];try rfl) rfl ?_;exact ws.out _ (fA _ _ _ _ _)
  ·have HM:Hid (doM f 4 tree key val=nC f t):=by have:=qx.out (by omega);simp at this;exact this
   clear qx qm DU;go_wp2_with fail;refine(aDO w3 ρ P A f J t cq hI ht).mono ?_;rintro e w4 ⟨rfl,ρ4,A4,J4,aw,jm,gw⟩;have r4:=r3.frm jm (fun q=>q nu);have e0:w4.cell? ⟨rb,0,none⟩=some (.int .i64 0):=r4.c rfl;have e1:w4.cell? ⟨rb,1,none⟩=some (.int .i64 0):=r4.c rfl;have e2:w4.cell? ⟨rb,2,none⟩=some (.string {data:=#[]}):=r4.c rfl;have q0:=r4.frozen 0;have q1:=r4.frozen 1;have q2:=r4.frozen 2;have ws:=aA (fun w9=>uy.out _ ρ4 A4 J4 w4 w9 HM.out aw jm gw);clear HM aw uy;generalize (nC f t)=r at *;obtain⟨g,x,y,z⟩:=r;simp only[bN]at ws ⊢;clear k3 k2 k1 r3 r4;go_wp2;refine bodyPost_ret (v:=.agg #[.int .i64 x,.int .i64 y,.string z]) (by simp[bN,results,Tryz.results57,go_sem,e0,e1,e2];try rfl) rfl ?_;exact ws.out _ (fA _ _ _ _ _)
  ·have HM:Hid (doM f 5 tree key val=cS f):=by unfold doM;rw[if_pos rfl];rfl
   clear qx qm DU;go_wp2_with fail;refine(yF w3 ρ P A f J cq hI).mono ?_;rintro e w4 ⟨rfl,ρ4,A4,J4,aw,jm,gw⟩;have r4:=r3.frm jm (fun q=>q nu);have e0:w4.cell? ⟨rb,0,none⟩=some (.int .i64 0):=r4.c rfl;have e1:w4.cell? ⟨rb,1,none⟩=some (.int .i64 0):=r4.c rfl;have e2:w4.cell? ⟨rb,2,none⟩=some (.string {data:=#[]}):=r4.c rfl;have q0:=r4.frozen 0;have q1:=r4.frozen 1;have q2:=r4.frozen 2;have ws:=aA (fun w9=>uy.out _ ρ4 A4 J4 w4 w9 HM.out aw jm gw);clear HM aw uy;generalize (cS f)=r at *;obtain⟨g,x,y,z⟩:=r;simp only[bN]at ws ⊢;clear k3 k2 k1 r3 r4;go_wp2;refine bodyPost_ret (v:=.agg #[.int .i64 x,.int .i64 y,.string z]) (by simp[bN,results,Tryz.results57,go_sem,e0,e1,e2];try rfl) rfl ?_;exact ws.out _ (fA _ _ _ _ _)
  ·have HM:Hid (doM f 6 tree key val=nH f t key):=by have:=qx.out (by omega);simp at this;exact this
   clear qx qm DU;go_wp2_with fail;refine(aGD w3 ρ P A f J t key cq hI ht).mono ?_;rintro e w4 ⟨rfl,ρ4,A4,J4,aw,jm,gw⟩;have r4:=r3.frm jm (fun q=>q nu);have e0:w4.cell? ⟨rb,0,none⟩=some (.int .i64 0):=r4.c rfl;have e1:w4.cell? ⟨rb,1,none⟩=some (.int .i64 0):=r4.c rfl;have e2:w4.cell? ⟨rb,2,none⟩=some (.string {data:=#[]}):=r4.c rfl;have q0:=r4.frozen 0;have q1:=r4.frozen 1;have q2:=r4.frozen 2;have ws:=aA (fun w9=>uy.out _ ρ4 A4 J4 w4 w9 HM.out aw jm gw);clear HM aw uy;generalize (nH f t key)=r at *;obtain⟨g,x,y,z⟩:=r;simp only[bN]at ws ⊢;clear k3 k2 k1 r3 r4;go_wp2;refine bodyPost_ret (v:=.agg #[.int .i64 x,.int .i64 y,.string z]) (by simp[bN,results,Tryz.results57,go_sem,e0,e1,e2];try rfl) rfl ?_;exact ws.out _ (fA _ _ _ _ _)
 ·have HM:=aA (DU.out c ts.out hc)
  have e0:w3.cell? ⟨rb,0,none⟩=some (.int .i64 0):=r3.c rfl;have e1:w3.cell? ⟨rb,1,none⟩=some (.int .i64 0):=r3.c rfl;have e2:w3.cell? ⟨rb,2,none⟩=some (.string {data:=#[]}):=r3.c rfl;have q0:=r3.frozen 0;have q1:=r3.frozen 1;have q2:=r3.frozen 2;have ws:=aA (fun w9=>uy.out _ ρ A J w3 w9 HM.out cq (Frm.refl _ _) (fun _ _ q=>q));clear DU qm HM;go_wp2;refine bodyPost_ret (v:=bN (c,0,.empty)) (by simp[bN,results,Tryz.results57,go_sem,e0,e1,e2];try rfl) rfl ?_;exact ws.out _ (fA _ _ _ _ _)
