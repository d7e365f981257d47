import Derived.Test.YtaahkgkdpnnhhaaGreatHq31
import Derived.Test.YtaahkgkdpnnhhaaGreatPl2a
set_option maxHeartbeats 9999999
set_option maxRecDepth 99999
set_option linter.all false
namespace Go.Proofs.YtaahkgkdpnnhhaaGreat
open Go.RowKit Go.Shelf Fo
theorem aGD(w:World)(ρ:Nat→Nat)(P:Nat)(A:Adr)(f:fZ)(J:List aQ)(t:Nat)(key:ByteArray)(h:St w ρ P A f J)(hI:Inv f)(ht:t<f.roots.length):
  Calls Tryz.prog 78 #[.pointer (some ⟨P,0,none⟩),.int .i64 t,.string key] w (DoP w ρ P (nH f t key)):=by
 have ik:=jP;have ba:=qP;obtain⟨hW,er,hH⟩:=hI.hOf ht;obtain⟨H,BI⟩:=eZ (hOf f t);rw[BI]at hW er hH;obtain⟨rb,fk⟩:=eZ (w.heap.size);obtain⟨w4,cn⟩:=eZ (w.alloc (.cells #[.int .i64 0,.int .i64 0,.string {data:=#[]}] 92));have B4:=bAl cn;have c4:=iNw cn fk;have aw:=h.below B4;obtain⟨_,_,_,li,_⟩:=id aw;have fw:((t:Nat):Int) <(f.roots.length:Int):=by omega
 have y2:w4.cell? ⟨P,0,none⟩=some (.slice (some ⟨A.ra,0,none⟩) f.roots.length (f.roots.length+A.rj.length)):=by rw[li.hP.cell];rfl
 have y4:=aw.rootAt hI.ic ht;go_enter Tryz.func78,Tryz.ntmps78;go_wp2_with fail;refine(aCJ (K:=2576) w4 ρ P A f J H (aB f t) none none key aw hI.ic hW.ok hI.sz).mono ?_;rintro e w5 ⟨rfl,et⟩;have B05:=B4.trans (et.mono B4.size);have cw:=h.below B05;have d4:=c4.of (et.block _ c4.lt);have za:ρ rb=0:=h.no0 (Nat.le_of_eq fk);have e0:w5.cell? ⟨rb,0,none⟩=some (.int .i64 0):=d4.c rfl;have e1:w5.cell? ⟨rb,1,none⟩=some (.int .i64 0):=d4.c rfl;have e2:w5.cell? ⟨rb,2,none⟩=some (.string {data:=#[]}):=d4.c rfl;have q0:=d4.frozen 0;have q1:=d4.frozen 1;have q2:=d4.frozen 2;have HF:Hid (∀(r:An) (w8:World),Frm (fun x=>x=rb) w5 w8→DoP w ρ P (f,r) (.returned (bN r)) w8):=fun r w8 hF=>
  ⟨rfl,ρ,A,J,cw.frm (hF.wide fun x _ e=>by rw[e];exact za),(Frm.of_below B05).next hF fun x hx q=>absurd q (by omega),fun x _ h0=>h0⟩
 cases ll:Fo.find f.nodes H (aB f t) key with
 | none=>
  have HX:Hid (nH f t key=(f,9,0,.empty)):=by unfold nH;rw[BI,ll];rfl
  clear ll;go_wp2;refine bodyPost_ret (v:=bN (9,0,.empty)) (by simp[bN,results,Tryz.results78,go_sem,e0,e1,e2];try rfl) rfl ?_;rw[HX.out];exact HF.out _ _ (fA _ _ _ _ _)
 | some v=>
  have HX:Hid (nH f t key=(f,0,0,v)):=by unfold nH;rw[BI,ll];rfl
  clear ll;go_wp2;refine bodyPost_ret (v:=bN (0,0,v)) (by simp[bN,results,Tryz.results78,go_sem,e0,e1,e2];try rfl) rfl ?_;rw[HX.out];exact HF.out _ _ (fA _ _ _ _ _)
theorem aAP(w:World)(ρ:Nat→Nat)(P:Nat)(A:Adr)(f:fZ)(J:List aQ)(t:Nat)(h:St w ρ P A f J)(hI:Inv f)(ht:t<f.roots.length):
  Calls Tryz.prog 75 #[.pointer (some ⟨P,0,none⟩),.int .i64 t] w (DoP w ρ P (lU f t)):=by
 have ik:=jP;have ao:=qO;obtain⟨rb,fk⟩:=eZ (w.heap.size);obtain⟨w4,cn⟩:=eZ (w.alloc (.cells #[.int .i64 0,.int .i64 0,.string {data:=#[]}] 92));have B4:=bAl cn;have c4:=iNw cn fk;have aw:=h.below B4;obtain⟨_,_,_,li,_⟩:=id aw;have fw:((t:Nat):Int) <(f.roots.length:Int):=by omega
 have y2:w4.cell? ⟨P,0,none⟩=some (.slice (some ⟨A.ra,0,none⟩) f.roots.length (f.roots.length+A.rj.length)):=by rw[li.hP.cell];rfl
 have y3:w4.cell? ⟨P,1,none⟩=some (.int .i64 f.next):=by rw[li.hP.cell];rfl
 have y4:=aw.rootAt hI.ic ht;have za:ρ rb=0:=h.no0 (Nat.le_of_eq fk);have e0:w4.cell? ⟨rb,0,none⟩=some (.int .i64 0):=c4.c rfl;have e1:w4.cell? ⟨rb,1,none⟩=some (.int .i64 0):=c4.c rfl;have e2:w4.cell? ⟨rb,2,none⟩=some (.string {data:=#[]}):=c4.c rfl;have q0:=c4.frozen 0;have q1:=c4.frozen 1;have q2:=c4.frozen 2;have HF:Hid (∀(r:An) (w8:World),Frm (fun x=>x=rb) w4 w8→DoP w ρ P (f,r) (.returned (bN r)) w8):=fun r w8 hF=>
  ⟨rfl,ρ,A,J,aw.frm (hF.wide fun x _ e=>by rw[e];exact za),(Frm.of_below B4).next hF fun x hx q=>absurd q (by omega),fun x _ h0=>h0⟩
 have i5:=hI.nx;by_cases ju:16≤f.roots.length
 ·have HX:Hid (lU f t=(f,4,0,.empty)):=by unfold lU;rw[if_pos (.inl ju)];rfl
  have ID:(16:Int)≤(f.roots.length:Int):=by omega
  go_enter Tryz.func75,Tryz.ntmps75
  go_wp2
  refine bodyPost_ret (v:=bN (4,0,.empty)) (by simp[bN,results,Tryz.results75,go_sem,e0,e1,e2];try rfl) rfl ?_;rw[HX.out];exact HF.out _ _ (fA _ _ _ _ _)
 ·have ID:¬(16:Int)≤(f.roots.length:Int):=by omega
  by_cases hn:65535≤f.next
  ·have HX:Hid (lU f t=(f,4,0,.empty)):=by unfold lU;rw[if_pos (.inr hn)];rfl
   go_enter Tryz.func75,Tryz.ntmps75
   go_wp2
   refine bodyPost_ret (v:=bN (4,0,.empty)) (by simp[bN,results,Tryz.results75,go_sem,e0,e1,e2];try rfl) rfl ?_;rw[HX.out];exact HF.out _ _ (fA _ _ _ _ _)
  ·have HX:Hid (lU f t=(cU f t,0,f.next,.empty)):=by unfold lU;rw[if_neg (by omega)];rfl
   go_enter Tryz.func75,Tryz.ntmps75
   go_wp2_with fail
   refine(aFX (K:=2576) w4 ρ P A f J t aw hI.ic hI.sz (by omega) ht (by omega) ⟨by omega,by omega⟩).mono ?_;rintro e w5 ⟨rfl,ρ5,A5,s5,m5⟩;have d4:IsC w5 rb #[.int .i64 0,.int .i64 0,.string {data:=#[]}] 92:=c4.frm m5.frm (fun q=>q.elim (fun q=>q za) id);have FC:ρ5 rb=0:=by rw[m5.rol rb c4.lt id];exact za
   have e0:w5.cell? ⟨rb,0,none⟩=some (.int .i64 0):=d4.c rfl;have e1:w5.cell? ⟨rb,1,none⟩=some (.int .i64 0):=d4.c rfl;have e2:w5.cell? ⟨rb,2,none⟩=some (.string {data:=#[]}):=d4.c rfl;have q0:=d4.frozen 0;have q1:=d4.frozen 1;have q2:=d4.frozen 2;have uw:Hid (∀(w8:World),Frm (fun x=>x=rb) w5 w8→DoP w ρ P (cU f t,0,f.next,.empty) (.returned (bN (0,f.next,.empty))) w8):=fun w8 hF=>
    ⟨rfl,ρ5,A5,J,s5.frm (hF.wide fun x _ e=>by rw[e];exact FC),((Frm.of_below B4).next m5.frm fun x _ q=>q.elim id False.elim).next hF fun x hx q=>absurd q (by omega),fun x hx h0=>by rw[m5.rol x (lL hx B4.size) id,h0]⟩
   clear s5;go_wp2;refine bodyPost_ret (v:=bN (0,f.next,.empty)) (by simp[bN,results,Tryz.results75,go_sem,e0,e1,e2];try rfl) rfl ?_;rw[HX.out];exact uw.out _ (fA _ _ _ _ _)
theorem aDO(w:World)(ρ:Nat→Nat)(P:Nat)(A:Adr)(f:fZ)(J:List aQ)(t:Nat)(h:St w ρ P A f J)(hI:Inv f)(ht:t<f.roots.length):
  Calls Tryz.prog 76 #[.pointer (some ⟨P,0,none⟩),.int .i64 t] w (DoP w ρ P (nC f t)):=by
 have ik:=jP;have ao:=qO;obtain⟨hW,er,hH⟩:=hI.hOf ht;obtain⟨H,BI⟩:=eZ (hOf f t);rw[BI]at hW er hH;obtain⟨rb,fk⟩:=eZ (w.heap.size);obtain⟨w4,cn⟩:=eZ (w.alloc (.cells #[.int .i64 0,.int .i64 0,.string {data:=#[]}] 92));have B4:=bAl cn;have c4:=iNw cn fk;have aw:=h.below B4;obtain⟨_,_,_,li,_⟩:=id aw;have fw:((t:Nat):Int) <(f.roots.length:Int):=by omega
 have y2:w4.cell? ⟨P,0,none⟩=some (.slice (some ⟨A.ra,0,none⟩) f.roots.length (f.roots.length+A.rj.length)):=by rw[li.hP.cell];rfl
 have y4:=aw.rootAt hI.ic ht;obtain⟨x,hx⟩:=eZ ((f.roots.getD t (0,0)).1);have y5:w4.cell? ⟨A.ra,t*2,none⟩=some (.int .i64 x):=by
  rw[li.hr.cell,(lB (f.roots++A.rj) (i:=t) (by simp;omega)).1,cX,if_pos ht,hx]
 have h0:0≤(f.roots.getD t (0,0)).2:=(hI.ic.rb _ (aO ht)).1;have Nc:f.roots.getD t (0,0)=(x,(aB f t:Int)):=by
  unfold aB;rw[Int.toNat_of_nonneg h0,←hx]
 have za:ρ rb=0:=h.no0 (Nat.le_of_eq fk);have e0:w4.cell? ⟨rb,0,none⟩=some (.int .i64 0):=c4.c rfl;have e1:w4.cell? ⟨rb,1,none⟩=some (.int .i64 0):=c4.c rfl;have e2:w4.cell? ⟨rb,2,none⟩=some (.string {data:=#[]}):=c4.c rfl;have q0:=c4.frozen 0;have q1:=c4.frozen 1;have q2:=c4.frozen 2;have HF:Hid (∀(r:An) (w8:World),Frm (fun x=>x=rb) w4 w8→DoP w ρ P (f,r) (.returned (bN r)) w8):=fun r w8 hF=>
  ⟨rfl,ρ,A,J,aw.frm (hF.wide fun x _ e=>by rw[e];exact za),(Frm.of_below B4).next hF fun x hx q=>absurd q (by omega),fun x _ h0=>h0⟩
 by_cases ju:f.roots.length=1
 ·have HX:Hid (nC f t=(f,18,0,.empty)):=by unfold nC;rw[if_pos ju];rfl
  have ID:((f.roots.length:Int) == 1)=true:=by rw[ju];rfl
  clear fw;go_enter Tryz.func76,Tryz.ntmps76;go_wp2;refine bodyPost_ret (v:=bN (18,0,.empty)) (by simp[bN,results,Tryz.results76,go_sem,e0,e1,e2];try rfl) rfl ?_;rw[HX.out];exact HF.out _ _ (fA _ _ _ _ _)
 ·have ID:((f.roots.length:Int) == 1)=false:=by simp;omega
  have HX:Hid (nC f t=((drop f t H).1,0,(drop f t H).2,.empty)):=by unfold nC;rw[if_neg ju,BI];rfl
  go_enter Tryz.func76,Tryz.ntmps76
  go_wp2_with fail
  refine(aJC (K:=2576) w4 ρ P A f J t H x aw hI hI.sz (by omega) ht hW.ok Nc).mono ?_;rintro e w5 ⟨rfl,ρ5,A5,s5,m5⟩;have d4:IsC w5 rb #[.int .i64 0,.int .i64 0,.string {data:=#[]}] 92:=c4.frm m5.frm (fun q=>q.elim (fun q=>q za) id);have FC:ρ5 rb=0:=by rw[m5.rol rb c4.lt id];exact za
  have e0:w5.cell? ⟨rb,0,none⟩=some (.int .i64 0):=d4.c rfl;have e1:w5.cell? ⟨rb,1,none⟩=some (.int .i64 0):=d4.c rfl;have e2:w5.cell? ⟨rb,2,none⟩=some (.string {data:=#[]}):=d4.c rfl;have q0:=d4.frozen 0;have q1:=d4.frozen 1;have q2:=d4.frozen 2;have uw:Hid (∀(w8:World),Frm (fun x=>x=rb) w5 w8→DoP w ρ P ((drop f t H).1,0,(drop f t H).2,.empty) (.returned (bN (0,(drop f t H).2,.empty))) w8):=fun w8 hF=>
   ⟨rfl,ρ5,A5,J,s5.frm (hF.wide fun x _ e=>by rw[e];exact FC),((Frm.of_below B4).next m5.frm fun x _ q=>q.elim id False.elim).next hF fun x hx q=>absurd q (by omega),fun x hx h0=>by rw[m5.rol x (lL hx B4.size) id,h0]⟩
  clear s5;go_wp2;refine bodyPost_ret (v:=bN (0,(drop f t H).2,.empty)) (by simp[bN,results,Tryz.results76,go_sem,e0,e1,e2];try rfl) rfl ?_;rw[HX.out];exact uw.out _ (fA _ _ _ _ _)
section
variable {w w1 : World} {ρ : Nat → Nat} {P : Nat} {A : Adr} {f : fZ} {J : List aQ}
def tE(ρ:Nat→Nat)(g:Nat):Nat→Nat:=fun x=>if x=g then 5 else ρ x
theorem St.setCom(h:St w ρ P A f J){g:Nat}{com:List Int}{dj:List Value}(hB:Bl w w1)(hg:IsC w1 g (jH com dj) 2)(Bg:w.heap.size≤g)(lq:com.length+dj.length≤maxLen):
  St (w1.setCell ⟨P,5,none⟩ (.slice (some ⟨g,0,none⟩) com.length (com.length+dj.length))) (tE ρ g) P {A with d:=g,dj:=dj} {f with com:=com} J∧Frm (fun x=>ρ x≠0) w (w1.setCell ⟨P,5,none⟩ (.slice (some ⟨g,0,none⟩) com.length (com.length+dj.length))):=by
 have Bv:ρ P=1:=by obtain⟨_,_,_,h1,_⟩:=h;exact h1.rP
 have ap:∀x,ρ x≠0→x<w.heap.size:=by obtain⟨_,_,_,h1,_⟩:=h;exact h1.own
 have vh:ρ g=0:=h.no0 Bg;have Qk:g≠P:=fun e=>by rw[e,Bv]at vh;omega
 have k:Frm (fun x=>x=P) w (w1.setCell ⟨P,5,none⟩ (.slice (some ⟨g,0,none⟩) com.length (com.length+dj.length))):=(Frm.of_below hB).trans (Frm.set (S:=fun x=>x=P) w1 (p:=⟨P,5,none⟩) rfl _);have cy:∀x,ρ x≠0→tE ρ g x=ρ x:=fun x hx=>by
  unfold tE;split
  ·rename_i e;rw[e]at hx;exact absurd vh hx
  ·rfl
 have CX:tE ρ g g=5:=by simp[tE]
 have no:∀{x r},ρ x=r→r≠1→¬x=P:=fun {x r} e hr q=>hr (by rw[←e,q,Bv]);refine⟨h.of k (fun x e=>by rw[e,Bv];exact uZ.2) (fun x _ hx=>cy x fun e=>by rw[e]at hx;exact aCO hx) fun jv hR=>?_,k.wide (fun x _ e=>by rw[e,Bv];omega)⟩;have hK:Kp (fun x=>x=P) w ρ (w1.setCell ⟨P,5,none⟩ (.slice (some ⟨g,0,none⟩) com.length (com.length+dj.length))) (tE ρ g):=⟨k,fun x _ hx=>cy x hx.1,fun x hx=>by
  by_cases e:x=g
  ·rw[e];have:=hg.lt;simpa using this
  ·have:ρ x≠0:=by unfold tE at hx;rw[if_neg e]at hx;exact hx
   exact lL (ap x this) k.size⟩
 have Kh:IsC w1 P (dE A f jv) 71:=hR.hP.of (hB.block _ hR.hP.lt);refine hR.gen (A':={A with d:=g,dj:=dj}) (f':={f with com:=com}) hK (.inr ?_) (.inl ⟨no hR.rr (by omega),rfl,rfl⟩) (.inl ⟨no hR.rm (by omega),rfl⟩) rfl (.inl ⟨no hR.rc (by omega),rfl⟩) rfl (.inr ⟨hg.set_ne _ Qk,CX⟩) (fun x d hx=>.inl ⟨hx,rfl,rfl,fun y hy=>?_⟩) hR.no hR.rs lq
 ·have:=Kh.set 5 (.slice (some ⟨g,0,none⟩) com.length (com.length+dj.length))
  simpa [dE] using this
 ·rcases hy with e | e
  ·exact no e (by unfold cE;omega)
  ·exact no e (by unfold cB;omega)
theorem St.setComAt(h:St w ρ P A f J){b:Nat}(v:Int)(hb:b<f.com.length):St (w.setCell ⟨A.d,b,none⟩ (.int .i64 v)) ρ P A {f with com:=f.com.set b v} J∧Frm (fun x=>x=A.d) w (w.setCell ⟨A.d,b,none⟩ (.int .i64 v)):=by
 have EY:ρ A.d=5:=by obtain⟨_,_,_,h1,_⟩:=h;exact h1.rd
 have k:Frm (fun x=>x=A.d) w (w.setCell ⟨A.d,b,none⟩ (.int .i64 v)):=Frm.set (S:=fun x=>x=A.d) w (p:=⟨A.d,b,none⟩) rfl _;have no:∀{x r},ρ x=r→r≠5→¬x=A.d:=fun {x r} e hr q=>hr (by rw[←e,q,EY]);refine⟨h.of k (fun x e=>by rw[e,EY];exact aGP.2) (fun _ _ _=>rfl) fun jv hR=>?_,k⟩;refine hR.gen (A':=A) (f':={f with com:=f.com.set b v}) (Kp.same hR k) (.inl ⟨no hR.rP (by omega),by simp[dE]⟩) (.inl ⟨no hR.rr (by omega),rfl,rfl⟩) (.inl ⟨no hR.rm (by omega),rfl⟩) rfl (.inl ⟨no hR.rc (by omega),rfl⟩) rfl (.inr ⟨?_,EY⟩) (fun x d hx=>.inl ⟨hx,rfl,rfl,fun y hy=>?_⟩) hR.no hR.rs (by simpa using hR.ds)
 ·have:=hR.hd.set b (.int .i64 v)
  have e:(jH f.com A.dj).setIfInBounds b (.int .i64 v)=jH (f.com.set b v) A.dj:=by
   simp only[jH,List.setIfInBounds_toArray,List.map_set];rw[List.set_append_left _ _ (by simpa using hb)]
  rw[e]at this;exact this
 ·rcases hy with e | e
  ·exact no e (by unfold cE;omega)
  ·exact no e (by unfold cB;omega)
theorem St.setTab(h:St w ρ P A f J)(v:Value)(p:List Int):St (w.setCell ⟨P,6,none⟩ v) ρ P {A with tv:=v} {f with table:=p} J∧Frm (fun x=>x=P) w (w.setCell ⟨P,6,none⟩ v):=by
 have Bv:ρ P=1:=by obtain⟨_,_,_,h1,_⟩:=h;exact h1.rP
 have k:Frm (fun x=>x=P) w (w.setCell ⟨P,6,none⟩ v):=Frm.set (S:=fun x=>x=P) w (p:=⟨P,6,none⟩) rfl _;have no:∀{x r},ρ x=r→r≠1→¬x=P:=fun {x r} e hr q=>hr (by rw[←e,q,Bv]);refine⟨h.of k (fun x e=>by rw[e,Bv];exact uZ.2) (fun _ _ _=>rfl) fun jv hR=>?_,k⟩;refine hR.gen (A':={A with tv:=v}) (f':={f with table:=p}) (Kp.same hR k) (.inr ?_) (.inl ⟨no hR.rr (by omega),rfl,rfl⟩) (.inl ⟨no hR.rm (by omega),rfl⟩) rfl (.inl ⟨no hR.rc (by omega),rfl⟩) rfl (.inl ⟨no hR.rd (by omega),rfl,rfl⟩) (fun x d hx=>.inl ⟨hx,rfl,rfl,fun y hy=>?_⟩) hR.no hR.rs hR.ds
 ·have:=hR.hP.set 6 v
  simpa [dE] using this
 ·rcases hy with e | e
  ·exact no e (by unfold cE;omega)
  ·exact no e (by unfold cB;omega)
end
