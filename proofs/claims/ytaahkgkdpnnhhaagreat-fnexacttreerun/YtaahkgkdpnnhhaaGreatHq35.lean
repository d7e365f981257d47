import Derived.Test.YtaahkgkdpnnhhaaGreatHq31
set_option maxHeartbeats 9999999
set_option maxRecDepth 99999
set_option linter.all false
namespace Go.Proofs.YtaahkgkdpnnhhaaGreat
open Go.RowKit Go.Shelf Fo
theorem St.rootAt{w:World}{ρ:Nat→Nat}{P:Nat}{A:Adr}{f:fZ}{J:List aR}(h:St w ρ P A f J)(hI:IC f){t:Nat}(ht:t<f.roots.length):w.cell? ⟨A.ra,t*2+1,none⟩=some (.int .i64 (aB f t)):=by
 have h0:0≤(f.roots.getD t (0,0)).2:=(hI.rb _ (aP ht)).1;exact(h.rootCell ht h0).1
theorem zS(w:World)(ρ:Nat→Nat)(P:Nat)(A:Adr)(f:fZ)(J:List aR)(t:Nat)(key:ByteArray)(h:St w ρ P A f J)(hI:Inv f)(ht:t<f.roots.length):
  Calls Tryz.prog 74 #[.pointer (some ⟨P,0,none⟩),.int .i64 t,.string key] w (DoP w ρ P (mW f t key)):=by
 have hmf:∀(fn:Fn) (first cap:Array Value) (w:World),(Instr.makeFunc fn first cap).run Tryz.prog w=.ok (.func fn first cap) w:=fun _ _ _ _=>rfl;have hb0:=jX;have hb2:=qT;obtain⟨hW,hrt,hH⟩:=hI.hOf ht;obtain⟨H,hHe⟩:=eZ (hOf f t);rw[hHe]at hW hrt hH;obtain⟨w1,hw1⟩:=eZ (w.alloc (.cells #[.pointer (some ⟨P,0,none⟩)] 65));obtain⟨w2,hw2⟩:=eZ (w1.alloc (.cells #[.int .i64 t] 3));obtain⟨w3,hw3⟩:=eZ (w2.alloc (.cells #[.string key] 9));obtain⟨w4,hw4⟩:=eZ (w3.alloc (.cells #[.int .i64 0,.int .i64 0,.string {data:=#[]}] 92));obtain⟨pb,hpb⟩:=eZ (w.heap.size);obtain⟨ab,hab⟩:=eZ (w1.heap.size);obtain⟨kb,hkb⟩:=eZ (w2.heap.size);obtain⟨rb,hrb⟩:=eZ (w3.heap.size);have hBx:∀(u:World) (o:Obj) (v:World),u.alloc o=v→Bl u v∧v.heap.size=u.heap.size+1:=fun u o v e=>by rw[←e];exact⟨(bQ _ u).alloc (nR _) _,by simp⟩
 have hNx:∀(u:World) (cs:Array Value) (ty:TypeId) (v:World),u.alloc (.cells cs ty)=v→IsC v u.heap.size cs ty:=fun u cs ty v e=>by rw[←e];exact IsC.new _ _ _
 obtain⟨B1,s1⟩:=hBx _ _ _ hw1;obtain⟨B2,s2⟩:=hBx _ _ _ hw2;obtain⟨B3,s3⟩:=hBx _ _ _ hw3;obtain⟨B4,s4⟩:=hBx _ _ _ hw4;have B24:Bl w2 w4:=B3.trans (B4.mono (by omega));have B14:Bl w1 w4:=B2.trans (B24.mono (by omega));have B04:Bl w w4:=B1.trans (B14.mono (by omega));have c1:IsC w4 pb #[.pointer (some ⟨P,0,none⟩)] 65:=by have:=hNx _ _ _ _ hw1;rw[←hpb];exact this.of (B14.block _ this.lt)
 have c2:IsC w4 ab #[.int .i64 t] 3:=by have:=hNx _ _ _ _ hw2;rw[←hab];exact this.of (B24.block _ this.lt)
 have c3:IsC w4 kb #[.string key] 9:=by have:=hNx _ _ _ _ hw3;rw[←hkb];exact this.of (B4.block _ this.lt)
 have c4:IsC w4 rb #[.int .i64 0,.int .i64 0,.string {data:=#[]}] 92:=by have:=hNx _ _ _ _ hw4;rw[←hrb];exact this
 have G:w.heap.size≤pb∧w.heap.size≤ab∧w.heap.size≤kb∧w.heap.size≤rb:=by omega
 have hS4:=h.below B04;obtain⟨_,_,_,hR4,_⟩:=id hS4;have htl:((t:Nat):Int) <(f.roots.length:Int):=by omega
 have HF4:=aA ((aCV (K:=2576) w4.drew ρ P A f J H (aB f t) none none key (hS4.below (bQ _ _).drew) hI.ic hW.ok hI.sz).mono (fun e w' hw=>aI hw.1 (show Bl w4 w' from(bQ _ w4).drew.trans hw.2)));have hS:∀W:World,Bl w4 W→W.cell? ⟨pb,0,none⟩=some (.pointer (some ⟨P,0,none⟩))∧W.cell? ⟨P,0,none⟩=some (.slice (some ⟨A.ra,0,none⟩) f.roots.length (f.roots.length+A.rj.length))∧W.cell? ⟨ab,0,none⟩=some (.int .i64 t)∧W.cell? ⟨A.ra,t*2+1,none⟩=some (.int .i64 (aB f t))∧W.cell? ⟨kb,0,none⟩=some (.string key):=fun W hB=>by
  refine⟨?_,?_,?_,?_,?_⟩
  ·rw[hB.cell c1.lt,c1.cell];rfl
  ·rw[hB.cell hR4.hP.lt,hR4.hP.cell];rfl
  ·rw[hB.cell c2.lt,c2.cell];rfl
  ·exact(hS4.below hB).rootAt hI.ic ht
  ·rw[hB.cell c3.lt,c3.cell];rfl
 have HSS:=aA hS;have HS:=aA (aI s1 (aI s2 (aI s3 s4)));obtain⟨y1,y2,y3,y4,y5⟩:=hS w4 (bQ _ _);clear s1 s2 s3 s4 hS;go_enter Tryz.func74,Tryz.ntmps74;go_wp2_with fail;go_region_held3 (fun W=>W.cell? ⟨pb,0,none⟩=some (.pointer (some ⟨P,0,none⟩))∧W.cell? ⟨P,0,none⟩=some (.slice (some ⟨A.ra,0,none⟩) f.roots.length (f.roots.length+A.rj.length))∧W.cell? ⟨ab,0,none⟩=some (.int .i64 t)∧W.cell? ⟨A.ra,t*2+1,none⟩=some (.int .i64 (aB f t))∧W.cell? ⟨kb,0,none⟩=some (.string key)) (first | assumption | go_keep)
  ((go_at_call 100;refine HF4.out.mono ?_;rintro e w5 ⟨rfl,hb5⟩;have hq5:=HSS.out _ hb5))
 clear hq5 y1 y2 y3 y4 y5;have B05:Bl w w5:=B04.trans (hb5.mono (Nat.le_of_lt (by have:=HS.out;omega)));have hS5:=h.below B05;have d1:=c1.of (hb5.block _ c1.lt);have d2:=c2.of (hb5.block _ c2.lt);have d3:=c3.of (hb5.block _ c3.lt);have d4:=c4.of (hb5.block _ c4.lt);have hr7:ρ rb=0:=h.no0 G.2.2.2;cases hfd:Fo.find f.nodes H (aB f t) key with
 | none=>
  have e0:w5.cell? ⟨rb,0,none⟩=some (.int .i64 0):=d4.c rfl;have e1:w5.cell? ⟨rb,1,none⟩=some (.int .i64 0):=d4.c rfl;have e2:w5.cell? ⟨rb,2,none⟩=some (.string {data:=#[]}):=d4.c rfl;have q0:=d4.frozen 0;have q1:=d4.frozen 1;have q2:=d4.frozen 2;have HX:Hid (mW f t key=(f,9,0,.empty)):=by unfold mW;rw[hHe,hfd];rfl
  have HF:Hid (∀w8:World,Frm (fun x=>x=rb) w5 w8→DoP w ρ P (f,9,0,.empty) (.returned (bO (9,0,.empty))) w8):=fun w8 hF=>
   ⟨rfl,ρ,A,J,hS5.frm (hF.wide fun x _ e=>by rw[e];exact hr7),(Frm.of_below B05).next hF fun x hx q=>absurd q (by omega),fun x _ h0=>h0⟩
  clear hfd;go_wp2;refine bodyPost_ret (v:=bO (9,0,.empty)) (by simp[bO,results,Tryz.results74,go_sem,e0,e1,e2];try rfl) rfl ?_;rw[HX.out];exact HF.out _ (fA _ _ _ _ _)
 | some v=>
  have hmem:=kS hW.ok hfd;have k1:w5.cell? ⟨pb,0,none⟩=some (.pointer (some ⟨P,0,none⟩)):=d1.c rfl;have hat:=uB (K:=2576) (L:=2576+20*(H+3)) (25*(H+3)) (fun _=>False) (fun _ _=>True) 101 #[.pointer (some ⟨pb,0,none⟩),.pointer (some ⟨ab,0,none⟩),.pointer (some ⟨kb,0,none⟩)] w5 ρ P A f J (bW f t H key) hS5 hI.sz (by omega) (by omega) hI.ne hI.r16
   (fun x e=>e.elim) (fun g h1 h2 hh _=>trivial) (fun _ _=>rfl)
   (fun W hF hS=>by
    have hP:P<w.heap.size:=by obtain⟨_,_,_,q,_⟩:=id h;exact q.hP.lt
    exact xM (K:=2576) W ρ P A f t H key pb ab kb hS hW hrt hmem hI.sz (by omega) (by omega) (by omega) (d1.frm hF (by omega)) (d2.frm hF (by omega)) (d3.frm hF (by omega)) hI.r16)
  have HFD:=aA hfd;clear hfd;go_wp2_with fail;refine hat.mono ?_;rintro e w7 ⟨rfl,⟨ρ7,A7,J7,s7,f7,r7⟩,-⟩;have f4:IsC w7 rb #[.int .i64 0,.int .i64 0,.string {data:=#[]}] 92:=d4.frm f7 (fun q=>q.elim (fun q=>q hr7) id);have e0:w7.cell? ⟨rb,0,none⟩=some (.int .i64 0):=f4.c rfl;have e1:w7.cell? ⟨rb,1,none⟩=some (.int .i64 0):=f4.c rfl;have e2:w7.cell? ⟨rb,2,none⟩=some (.string {data:=#[]}):=f4.c rfl;have q0:=f4.frozen 0;have q1:=f4.frozen 1;have q2:=f4.frozen 2;have hrbl:rb<w5.heap.size:=d4.lt;have HF:Hid (∀(r:fZ×An) (w8:World),r.1=(jC f (bW f t H key)).1→Frm (fun x=>x=rb) w7 w8→DoP w ρ P r (.returned (bO r.2)) w8):=fun r w8 hr hF=>by
   refine⟨rfl,ρ7,A7,J7,?_,?_,fun x hx h0=>r7 x (lL hx B05.size) h0⟩
   ·rw[hr];exact s7.frm (hF.wide fun x _ e=>by rw[e];exact r7 rb hrbl hr7)
   ·exact((Frm.of_below B05).next f7 fun x hx q=>q.elim id False.elim).next hF fun x hx q=>absurd q (by omega)
  have hdl:mW f t key=match bW f t H key with
   | none=>(f,7,0,.empty)
   | some g=>if fI g.cur g.com<2*fJ g.cur.length then(f,7,0,.empty)else(g,0,0,v):=by unfold mW;rw[hHe,HFD.out];rfl
  cases hput:bW f t H key with
  | none=>
   have hr:f=(jC f (bW f t H key)).1:=by rw[hput];rfl
   have hc:(jC f none).2=7:=rfl;rw[hput]at hdl;rw[hc];have HX:=aA (aI hdl hr);clear hdl hr hc hput;go_wp2;refine bodyPost_ret (v:=bO (7,0,.empty)) (by simp[bO,results,Tryz.results74,go_sem,e0,e1,e2];try rfl) rfl ?_;rw[HX.out.1];exact HF.out (f,7,0,ByteArray.empty) _ HX.out.2 (fA _ _ _ _ _)
  | some g=>
   rw[hput]at hdl;simp only at hdl;by_cases hlt:fI g.cur g.com<2*fJ g.cur.length
   ·rw[if_pos hlt]at hdl
    have hat2:jC f (some g)=(f,7):=by show(if fI g.cur g.com<2*fJ g.cur.length then(f,(7:Int))else(g,0))=_;rw[if_pos hlt]
    have hr:f=(jC f (bW f t H key)).1:=by rw[hput,hat2]
    rw[hat2];have HX:=aA (aI hdl hr);clear hdl hr hat2 hput hlt;go_wp2;refine bodyPost_ret (v:=bO (7,0,.empty)) (by simp[bO,results,Tryz.results74,go_sem,e0,e1,e2];try rfl) rfl ?_;rw[HX.out.1];exact HF.out (f,7,0,ByteArray.empty) _ HX.out.2 (fA _ _ _ _ _)
   ·rw[if_neg hlt]at hdl
    have hat2:jC f (some g)=(g,0):=by show(if fI g.cur g.com<2*fJ g.cur.length then(f,(7:Int))else(g,0))=_;rw[if_neg hlt]
    have hr:g=(jC f (bW f t H key)).1:=by rw[hput,hat2]
    rw[hat2];have HX:=aA (aI hdl hr);clear hdl hr hat2 hput hlt;go_wp2;refine bodyPost_ret (v:=bO (0,0,v)) (by simp[bO,results,Tryz.results74,go_sem,e0,e1,e2];try rfl) rfl ?_;rw[HX.out.1];exact HF.out (g,0,0,v) _ HX.out.2 (fA _ _ _ _ _)
theorem aGJ(w:World)(ρ:Nat→Nat)(P:Nat)(A:Adr)(f:fZ)(J:List aR)(t:Nat)(key:ByteArray)(h:St w ρ P A f J)(hI:Inv f)(ht:t<f.roots.length):
  Calls Tryz.prog 78 #[.pointer (some ⟨P,0,none⟩),.int .i64 t,.string key] w (DoP w ρ P (nZ f t key)):=by
 have hb0:=jX;have hb2:=qT;obtain⟨hW,hrt,hH⟩:=hI.hOf ht;obtain⟨H,hHe⟩:=eZ (hOf f t);rw[hHe]at hW hrt hH;obtain⟨rb,hrb⟩:=eZ (w.heap.size);obtain⟨w4,hw4⟩:=eZ (w.alloc (.cells #[.int .i64 0,.int .i64 0,.string {data:=#[]}] 92));have B4:=bAl hw4;have c4:=iNw hw4 hrb;have hS4:=h.below B4;obtain⟨_,_,_,hR4,_⟩:=id hS4;have htl:((t:Nat):Int) <(f.roots.length:Int):=by omega
 have y2:w4.cell? ⟨P,0,none⟩=some (.slice (some ⟨A.ra,0,none⟩) f.roots.length (f.roots.length+A.rj.length)):=by rw[hR4.hP.cell];rfl
 have y4:=hS4.rootAt hI.ic ht;go_enter Tryz.func78,Tryz.ntmps78;go_wp2_with fail;refine(aCV (K:=2576) w4 ρ P A f J H (aB f t) none none key hS4 hI.ic hW.ok hI.sz).mono ?_;rintro e w5 ⟨rfl,hb5⟩;have B05:=B4.trans (hb5.mono B4.size);have hS5:=h.below B05;have d4:=c4.of (hb5.block _ c4.lt);have hr7:ρ rb=0:=h.no0 (Nat.le_of_eq hrb);have e0:w5.cell? ⟨rb,0,none⟩=some (.int .i64 0):=d4.c rfl;have e1:w5.cell? ⟨rb,1,none⟩=some (.int .i64 0):=d4.c rfl;have e2:w5.cell? ⟨rb,2,none⟩=some (.string {data:=#[]}):=d4.c rfl;have q0:=d4.frozen 0;have q1:=d4.frozen 1;have q2:=d4.frozen 2;have HF:Hid (∀(r:An) (w8:World),Frm (fun x=>x=rb) w5 w8→DoP w ρ P (f,r) (.returned (bO r)) w8):=fun r w8 hF=>
  ⟨rfl,ρ,A,J,hS5.frm (hF.wide fun x _ e=>by rw[e];exact hr7),(Frm.of_below B05).next hF fun x hx q=>absurd q (by omega),fun x _ h0=>h0⟩
 cases hfd:Fo.find f.nodes H (aB f t) key with
 | none=>
  have HX:Hid (nZ f t key=(f,9,0,.empty)):=by unfold nZ;rw[hHe,hfd];rfl
  clear hfd;go_wp2;refine bodyPost_ret (v:=bO (9,0,.empty)) (by simp[bO,results,Tryz.results78,go_sem,e0,e1,e2];try rfl) rfl ?_;rw[HX.out];exact HF.out _ _ (fA _ _ _ _ _)
 | some v=>
  have HX:Hid (nZ f t key=(f,0,0,v)):=by unfold nZ;rw[hHe,hfd];rfl
  clear hfd;go_wp2;refine bodyPost_ret (v:=bO (0,0,v)) (by simp[bO,results,Tryz.results78,go_sem,e0,e1,e2];try rfl) rfl ?_;rw[HX.out];exact HF.out _ _ (fA _ _ _ _ _)
theorem aBY(w:World)(ρ:Nat→Nat)(P:Nat)(A:Adr)(f:fZ)(J:List aR)(t:Nat)(h:St w ρ P A f J)(hI:Inv f)(ht:t<f.roots.length):
  Calls Tryz.prog 75 #[.pointer (some ⟨P,0,none⟩),.int .i64 t] w (DoP w ρ P (lZ f t)):=by
 have hb0:=jX;have hb1:=qV;obtain⟨rb,hrb⟩:=eZ (w.heap.size);obtain⟨w4,hw4⟩:=eZ (w.alloc (.cells #[.int .i64 0,.int .i64 0,.string {data:=#[]}] 92));have B4:=bAl hw4;have c4:=iNw hw4 hrb;have hS4:=h.below B4;obtain⟨_,_,_,hR4,_⟩:=id hS4;have htl:((t:Nat):Int) <(f.roots.length:Int):=by omega
 have y2:w4.cell? ⟨P,0,none⟩=some (.slice (some ⟨A.ra,0,none⟩) f.roots.length (f.roots.length+A.rj.length)):=by rw[hR4.hP.cell];rfl
 have y3:w4.cell? ⟨P,1,none⟩=some (.int .i64 f.next):=by rw[hR4.hP.cell];rfl
 have y4:=hS4.rootAt hI.ic ht;have hr7:ρ rb=0:=h.no0 (Nat.le_of_eq hrb);have e0:w4.cell? ⟨rb,0,none⟩=some (.int .i64 0):=c4.c rfl;have e1:w4.cell? ⟨rb,1,none⟩=some (.int .i64 0):=c4.c rfl;have e2:w4.cell? ⟨rb,2,none⟩=some (.string {data:=#[]}):=c4.c rfl;have q0:=c4.frozen 0;have q1:=c4.frozen 1;have q2:=c4.frozen 2;have HF:Hid (∀(r:An) (w8:World),Frm (fun x=>x=rb) w4 w8→DoP w ρ P (f,r) (.returned (bO r)) w8):=fun r w8 hF=>
  ⟨rfl,ρ,A,J,hS4.frm (hF.wide fun x _ e=>by rw[e];exact hr7),(Frm.of_below B4).next hF fun x hx q=>absurd q (by omega),fun x _ h0=>h0⟩
 have hnx:=hI.nx;by_cases h16:16≤f.roots.length
 ·have HX:Hid (lZ f t=(f,4,0,.empty)):=by unfold lZ;rw[if_pos (.inl h16)];rfl
  have h16':(16:Int)≤(f.roots.length:Int):=by omega
  go_enter Tryz.func75,Tryz.ntmps75
  go_wp2
  refine bodyPost_ret (v:=bO (4,0,.empty)) (by simp[bO,results,Tryz.results75,go_sem,e0,e1,e2];try rfl) rfl ?_;rw[HX.out];exact HF.out _ _ (fA _ _ _ _ _)
 ·have h16':¬(16:Int)≤(f.roots.length:Int):=by omega
  by_cases hn:65535≤f.next
  ·have HX:Hid (lZ f t=(f,4,0,.empty)):=by unfold lZ;rw[if_pos (.inr hn)];rfl
   go_enter Tryz.func75,Tryz.ntmps75
   go_wp2
   refine bodyPost_ret (v:=bO (4,0,.empty)) (by simp[bO,results,Tryz.results75,go_sem,e0,e1,e2];try rfl) rfl ?_;rw[HX.out];exact HF.out _ _ (fA _ _ _ _ _)
  ·have HX:Hid (lZ f t=(cS f t,0,f.next,.empty)):=by unfold lZ;rw[if_neg (by omega)];rfl
   go_enter Tryz.func75,Tryz.ntmps75
   go_wp2_with fail
   refine(aFR (K:=2576) w4 ρ P A f J t hS4 hI.ic hI.sz (by omega) ht (by omega) ⟨by omega,by omega⟩).mono ?_;rintro e w5 ⟨rfl,ρ5,A5,s5,m5⟩;have d4:IsC w5 rb #[.int .i64 0,.int .i64 0,.string {data:=#[]}] 92:=c4.frm m5.frm (fun q=>q.elim (fun q=>q hr7) id);have hr5:ρ5 rb=0:=by rw[m5.rol rb c4.lt id];exact hr7
   have e0:w5.cell? ⟨rb,0,none⟩=some (.int .i64 0):=d4.c rfl;have e1:w5.cell? ⟨rb,1,none⟩=some (.int .i64 0):=d4.c rfl;have e2:w5.cell? ⟨rb,2,none⟩=some (.string {data:=#[]}):=d4.c rfl;have q0:=d4.frozen 0;have q1:=d4.frozen 1;have q2:=d4.frozen 2;have HF5:Hid (∀(w8:World),Frm (fun x=>x=rb) w5 w8→DoP w ρ P (cS f t,0,f.next,.empty) (.returned (bO (0,f.next,.empty))) w8):=fun w8 hF=>
    ⟨rfl,ρ5,A5,J,s5.frm (hF.wide fun x _ e=>by rw[e];exact hr5),((Frm.of_below B4).next m5.frm fun x _ q=>q.elim id False.elim).next hF fun x hx q=>absurd q (by omega),fun x hx h0=>by rw[m5.rol x (lL hx B4.size) id,h0]⟩
   clear s5;go_wp2;refine bodyPost_ret (v:=bO (0,f.next,.empty)) (by simp[bO,results,Tryz.results75,go_sem,e0,e1,e2];try rfl) rfl ?_;rw[HX.out];exact HF5.out _ (fA _ _ _ _ _)
theorem aFJ(w:World)(ρ:Nat→Nat)(P:Nat)(A:Adr)(f:fZ)(J:List aR)(t:Nat)(h:St w ρ P A f J)(hI:Inv f)(ht:t<f.roots.length):
  Calls Tryz.prog 76 #[.pointer (some ⟨P,0,none⟩),.int .i64 t] w (DoP w ρ P (oN f t)):=by
 have hb0:=jX;have hb1:=qV;obtain⟨hW,hrt,hH⟩:=hI.hOf ht;obtain⟨H,hHe⟩:=eZ (hOf f t);rw[hHe]at hW hrt hH;obtain⟨rb,hrb⟩:=eZ (w.heap.size);obtain⟨w4,hw4⟩:=eZ (w.alloc (.cells #[.int .i64 0,.int .i64 0,.string {data:=#[]}] 92));have B4:=bAl hw4;have c4:=iNw hw4 hrb;have hS4:=h.below B4;obtain⟨_,_,_,hR4,_⟩:=id hS4;have htl:((t:Nat):Int) <(f.roots.length:Int):=by omega
 have y2:w4.cell? ⟨P,0,none⟩=some (.slice (some ⟨A.ra,0,none⟩) f.roots.length (f.roots.length+A.rj.length)):=by rw[hR4.hP.cell];rfl
 have y4:=hS4.rootAt hI.ic ht;obtain⟨x,hx⟩:=eZ ((f.roots.getD t (0,0)).1);have y5:w4.cell? ⟨A.ra,t*2,none⟩=some (.int .i64 x):=by
  rw[hR4.hr.cell,(kM (f.roots++A.rj) (i:=t) (by simp;omega)).1,cV,if_pos ht,hx]
 have h0:0≤(f.roots.getD t (0,0)).2:=(hI.ic.rb _ (aP ht)).1;have hxx:f.roots.getD t (0,0)=(x,(aB f t:Int)):=by
  unfold aB;rw[Int.toNat_of_nonneg h0,←hx]
 have hr7:ρ rb=0:=h.no0 (Nat.le_of_eq hrb);have e0:w4.cell? ⟨rb,0,none⟩=some (.int .i64 0):=c4.c rfl;have e1:w4.cell? ⟨rb,1,none⟩=some (.int .i64 0):=c4.c rfl;have e2:w4.cell? ⟨rb,2,none⟩=some (.string {data:=#[]}):=c4.c rfl;have q0:=c4.frozen 0;have q1:=c4.frozen 1;have q2:=c4.frozen 2;have HF:Hid (∀(r:An) (w8:World),Frm (fun x=>x=rb) w4 w8→DoP w ρ P (f,r) (.returned (bO r)) w8):=fun r w8 hF=>
  ⟨rfl,ρ,A,J,hS4.frm (hF.wide fun x _ e=>by rw[e];exact hr7),(Frm.of_below B4).next hF fun x hx q=>absurd q (by omega),fun x _ h0=>h0⟩
 by_cases h16:f.roots.length=1
 ·have HX:Hid (oN f t=(f,18,0,.empty)):=by unfold oN;rw[if_pos h16];rfl
  have h16':((f.roots.length:Int) == 1)=true:=by rw[h16];rfl
  clear htl;go_enter Tryz.func76,Tryz.ntmps76;go_wp2;refine bodyPost_ret (v:=bO (18,0,.empty)) (by simp[bO,results,Tryz.results76,go_sem,e0,e1,e2];try rfl) rfl ?_;rw[HX.out];exact HF.out _ _ (fA _ _ _ _ _)
 ·have h16':((f.roots.length:Int) == 1)=false:=by simp;omega
  have HX:Hid (oN f t=((drop f t H).1,0,(drop f t H).2,.empty)):=by unfold oN;rw[if_neg h16,hHe];rfl
  go_enter Tryz.func76,Tryz.ntmps76
  go_wp2_with fail
  refine(aIZ (K:=2576) w4 ρ P A f J t H x hS4 hI hI.sz (by omega) ht hW.ok hxx).mono ?_;rintro e w5 ⟨rfl,ρ5,A5,s5,m5⟩;have d4:IsC w5 rb #[.int .i64 0,.int .i64 0,.string {data:=#[]}] 92:=c4.frm m5.frm (fun q=>q.elim (fun q=>q hr7) id);have hr5:ρ5 rb=0:=by rw[m5.rol rb c4.lt id];exact hr7
  have e0:w5.cell? ⟨rb,0,none⟩=some (.int .i64 0):=d4.c rfl;have e1:w5.cell? ⟨rb,1,none⟩=some (.int .i64 0):=d4.c rfl;have e2:w5.cell? ⟨rb,2,none⟩=some (.string {data:=#[]}):=d4.c rfl;have q0:=d4.frozen 0;have q1:=d4.frozen 1;have q2:=d4.frozen 2;have HF5:Hid (∀(w8:World),Frm (fun x=>x=rb) w5 w8→DoP w ρ P ((drop f t H).1,0,(drop f t H).2,.empty) (.returned (bO (0,(drop f t H).2,.empty))) w8):=fun w8 hF=>
   ⟨rfl,ρ5,A5,J,s5.frm (hF.wide fun x _ e=>by rw[e];exact hr5),((Frm.of_below B4).next m5.frm fun x _ q=>q.elim id False.elim).next hF fun x hx q=>absurd q (by omega),fun x hx h0=>by rw[m5.rol x (lL hx B4.size) id,h0]⟩
  clear s5;go_wp2;refine bodyPost_ret (v:=bO (0,(drop f t H).2,.empty)) (by simp[bO,results,Tryz.results76,go_sem,e0,e1,e2];try rfl) rfl ?_;rw[HX.out];exact HF5.out _ (fA _ _ _ _ _)
section
variable {w w1 : World} {ρ : Nat → Nat} {P : Nat} {A : Adr} {f : fZ} {J : List aR}
def tT(ρ:Nat→Nat)(g:Nat):Nat→Nat:=fun x=>if x=g then 5 else ρ x
theorem St.setCom(h:St w ρ P A f J){g:Nat}{com:List Int}{dj:List Value}(hB:Bl w w1)(hg:IsC w1 g (jE com dj) 2)(hgs:w.heap.size≤g)(hsm:com.length+dj.length≤maxLen):
  St (w1.setCell ⟨P,5,none⟩ (.slice (some ⟨g,0,none⟩) com.length (com.length+dj.length))) (tT ρ g) P {A with d:=g,dj:=dj} {f with com:=com} J∧Frm (fun x=>ρ x≠0) w (w1.setCell ⟨P,5,none⟩ (.slice (some ⟨g,0,none⟩) com.length (com.length+dj.length))):=by
 have hrP:ρ P=1:=by obtain⟨_,_,_,h1,_⟩:=h;exact h1.rP
 have hown:∀x,ρ x≠0→x<w.heap.size:=by obtain⟨_,_,_,h1,_⟩:=h;exact h1.own
 have hg0:ρ g=0:=h.no0 hgs;have hgP:g≠P:=fun e=>by rw[e,hrP]at hg0;omega
 have k:Frm (fun x=>x=P) w (w1.setCell ⟨P,5,none⟩ (.slice (some ⟨g,0,none⟩) com.length (com.length+dj.length))):=(Frm.of_below hB).trans (Frm.set (S:=fun x=>x=P) w1 (p:=⟨P,5,none⟩) rfl _);have hro:∀x,ρ x≠0→tT ρ g x=ρ x:=fun x hx=>by
  unfold tT;split
  ·rename_i e;rw[e]at hx;exact absurd hg0 hx
  ·rfl
 have hrg:tT ρ g g=5:=by simp[tT]
 have no:∀{x r},ρ x=r→r≠1→¬x=P:=fun {x r} e hr q=>hr (by rw[←e,q,hrP]);refine⟨h.of k (fun x e=>by rw[e,hrP];exact vI.2) (fun x _ hx=>hro x fun e=>by rw[e]at hx;exact aDE hx) fun jv hR=>?_,k.wide (fun x _ e=>by rw[e,hrP];omega)⟩;have hK:Kp (fun x=>x=P) w ρ (w1.setCell ⟨P,5,none⟩ (.slice (some ⟨g,0,none⟩) com.length (com.length+dj.length))) (tT ρ g):=⟨k,fun x _ hx=>hro x hx.1,fun x hx=>by
  by_cases e:x=g
  ·rw[e];have:=hg.lt;simpa using this
  ·have:ρ x≠0:=by unfold tT at hx;rw[if_neg e]at hx;exact hx
   exact lL (hown x this) k.size⟩
 have hP1:IsC w1 P (dC A f jv) 71:=hR.hP.of (hB.block _ hR.hP.lt);refine hR.gen (A':={A with d:=g,dj:=dj}) (f':={f with com:=com}) hK (.inr ?_) (.inl ⟨no hR.rr (by omega),rfl,rfl⟩) (.inl ⟨no hR.rm (by omega),rfl⟩) rfl (.inl ⟨no hR.rc (by omega),rfl⟩) rfl (.inr ⟨hg.set_ne _ hgP,hrg⟩) (fun x d hx=>.inl ⟨hx,rfl,rfl,fun y hy=>?_⟩) hR.no hR.rs hsm
 ·have:=hP1.set 5 (.slice (some ⟨g,0,none⟩) com.length (com.length+dj.length))
  simpa [dC] using this
 ·rcases hy with e | e
  ·exact no e (by unfold cE;omega)
  ·exact no e (by unfold cC;omega)
theorem St.setComAt(h:St w ρ P A f J){b:Nat}(v:Int)(hb:b<f.com.length):St (w.setCell ⟨A.d,b,none⟩ (.int .i64 v)) ρ P A {f with com:=f.com.set b v} J∧Frm (fun x=>x=A.d) w (w.setCell ⟨A.d,b,none⟩ (.int .i64 v)):=by
 have hrd:ρ A.d=5:=by obtain⟨_,_,_,h1,_⟩:=h;exact h1.rd
 have k:Frm (fun x=>x=A.d) w (w.setCell ⟨A.d,b,none⟩ (.int .i64 v)):=Frm.set (S:=fun x=>x=A.d) w (p:=⟨A.d,b,none⟩) rfl _;have no:∀{x r},ρ x=r→r≠5→¬x=A.d:=fun {x r} e hr q=>hr (by rw[←e,q,hrd]);refine⟨h.of k (fun x e=>by rw[e,hrd];exact aFX.2) (fun _ _ _=>rfl) fun jv hR=>?_,k⟩;refine hR.gen (A':=A) (f':={f with com:=f.com.set b v}) (Kp.same hR k) (.inl ⟨no hR.rP (by omega),by simp[dC]⟩) (.inl ⟨no hR.rr (by omega),rfl,rfl⟩) (.inl ⟨no hR.rm (by omega),rfl⟩) rfl (.inl ⟨no hR.rc (by omega),rfl⟩) rfl (.inr ⟨?_,hrd⟩) (fun x d hx=>.inl ⟨hx,rfl,rfl,fun y hy=>?_⟩) hR.no hR.rs (by simpa using hR.ds)
 ·have:=hR.hd.set b (.int .i64 v)
  have e:(jE f.com A.dj).setIfInBounds b (.int .i64 v)=jE (f.com.set b v) A.dj:=by
   simp only[jE,List.setIfInBounds_toArray,List.map_set];rw[List.set_append_left _ _ (by simpa using hb)]
  rw[e]at this;exact this
 ·rcases hy with e | e
  ·exact no e (by unfold cE;omega)
  ·exact no e (by unfold cC;omega)
theorem St.setTab(h:St w ρ P A f J)(v:Value)(p:List Int):St (w.setCell ⟨P,6,none⟩ v) ρ P {A with tv:=v} {f with table:=p} J∧Frm (fun x=>x=P) w (w.setCell ⟨P,6,none⟩ v):=by
 have hrP:ρ P=1:=by obtain⟨_,_,_,h1,_⟩:=h;exact h1.rP
 have k:Frm (fun x=>x=P) w (w.setCell ⟨P,6,none⟩ v):=Frm.set (S:=fun x=>x=P) w (p:=⟨P,6,none⟩) rfl _;have no:∀{x r},ρ x=r→r≠1→¬x=P:=fun {x r} e hr q=>hr (by rw[←e,q,hrP]);refine⟨h.of k (fun x e=>by rw[e,hrP];exact vI.2) (fun _ _ _=>rfl) fun jv hR=>?_,k⟩;refine hR.gen (A':={A with tv:=v}) (f':={f with table:=p}) (Kp.same hR k) (.inr ?_) (.inl ⟨no hR.rr (by omega),rfl,rfl⟩) (.inl ⟨no hR.rm (by omega),rfl⟩) rfl (.inl ⟨no hR.rc (by omega),rfl⟩) rfl (.inl ⟨no hR.rd (by omega),rfl,rfl⟩) (fun x d hx=>.inl ⟨hx,rfl,rfl,fun y hy=>?_⟩) hR.no hR.rs hR.ds
 ·have:=hR.hP.set 6 v
  simpa [dC] using this
 ·rcases hy with e | e
  ·exact no e (by unfold cE;omega)
  ·exact no e (by unfold cC;omega)
end
