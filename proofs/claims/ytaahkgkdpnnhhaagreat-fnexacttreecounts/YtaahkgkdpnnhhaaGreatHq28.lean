import Derived.Defers
import Derived.Recover
import Derived.Test.YtaahkgkdpnnhhaaGreatHq23
set_option maxHeartbeats 9999999
set_option maxRecDepth 99999
set_option linter.all false
namespace Go.Proofs.YtaahkgkdpnnhhaaGreat
open Go.RowKit Go.Shelf Fo
attribute [local go_sem] Oper.semAt_some
section
variable {w w' : World} {ρ : Nat → Nat} {P : Nat} {A : Adr} {g : fZ} {ja : Option Nat} {jp jj : List JE} {J : List aR}
theorem wC{k r:Nat}(h:isN r):¬isK k r:=fun e=>h.2 (aLY e)
theorem St.undoC{k:Nat}(h:St w ρ P A g fK)(hK:JrK w ρ ja jp jj J k){b:Nat}(hb:b<g.cur.length)(v:Int):St (w.setCell ⟨A.c,b,none⟩ (.int .i64 v)) ρ P A (Fo.setC g b v) fK∧JrK (w.setCell ⟨A.c,b,none⟩ (.int .i64 v)) ρ ja jp jj J k:=by
 have hc:ρ A.c=4∧∀x,ρ x≠0→x<w.heap.size:=by obtain⟨_,_,_,h1,_⟩:=h;exact⟨h1.rc,h1.own⟩
 exact⟨(h.setC hb v).1,hK.frm (S:=fun x=>x=A.c) (nR _) (Frm.set (S:=fun x=>x=A.c) w (p:=⟨A.c,b,none⟩) rfl _) hc.2 (fun x e=>by rw[e,hc.1];exact wC aDF) (fun _ _=>rfl)⟩
theorem St.undoD{i:Nat}(h:St w ρ P A g fK)(hK:JrK w ρ ja jp jj J (i+1)){b:Nat}(hM:dR w' A.m (upd A.φ b none))(hF:Frm (fun x=>x=A.m) w w'):St w' ρ P (gO A b) (noN g b) fK∧JrK w' ρ ja jp jj J i:=by
 have hc:ρ A.m=3∧∀x,ρ x≠0→x<w.heap.size:=by obtain⟨_,_,_,h1,_⟩:=h;exact⟨h1.rm,h1.own⟩
 exact⟨(h.del hM hF).1,hK.frm (Nat.le_succ _) hF hc.2 (fun x e=>by rw[e,hc.1];exact wC vM) (fun _ _=>rfl)⟩
theorem St.undoP{i:Nat}(h:St w ρ P A g fK)(hK:JrK w ρ ja jp jj J (i+1)){b q:Nat}{d:Nd}{a:Option Nat}{junk:List E3}(hq:ρ q=jS i)(ha:∀x,a=some x→ρ x=jV i)(hN:aM w q d a junk)(hM:dR w' A.m (upd A.φ b (some q)))(hF:Frm (fun x=>x=A.m) w w'):
  ∃ρ',St w' ρ' P (cT A b q a) (setN g b d) fK∧JrK w' ρ' ja jp jj J i∧∀x,ρ' x≠0→ρ x≠0:=by
 have hc:ρ A.m=3∧∀x,ρ x≠0→x<w.heap.size:=by obtain⟨_,_,_,h1,_⟩:=h;exact⟨h1.rm,h1.own⟩
 have h1:=h.unrole (q:=q) (a:=a) (by rw[hq];exact qR i) (fun x e=>by rw[ha x e];exact qU i);obtain⟨h2,-⟩:=h1.put hN (by simp[aBD]) (fun x e=>by simp[aBD,e]) hM hF;refine⟨_,h2,hK.frm (Nat.le_succ _) hF hc.2 (fun x e=>by rw[e,hc.1];exact wC vM) (fun x hx=>?_),fun x hx e0=>?_⟩
 ·have e1:x≠q:=fun e=>by rw[e,hq]at hx;exact aLN (Nat.lt_irrefl i) hx
  have e2:a≠some x:=fun e=>by rw[ha x e]at hx;exact aKX (Nat.lt_irrefl i) hx
  simp[uK,aBD,e1,e2]
 ·have e1:x≠q:=fun e=>by rw[e,hq]at e0;unfold jS at e0;omega
  have e2:a≠some x:=fun e=>by rw[ha x e]at e0;unfold jV at e0;omega
  simp[uK,aBD,e1,e2,e0]at hx
end
structure RsP(w:World)(ρ:Nat→Nat)(P:Nat)(f:fZ)(J:List aR)(gr:Nat)(rs:List (Int×Int))(e:Ending)(w':World):Prop where
 e:e=.returned (.tuple #[])
 ex:∃ρ' A',St w' ρ' P A' {eB f J with roots:=rs} fK∧Frm (fun k=>ρ k≠0) w w'∧∀x,x≠gr→ρ' x≠0→ρ x≠0
theorem aGQ(f:fZ)(K:List aR):(eB f K).cur.length=f.cur.length:=(pF f K).2.2.2.2.2
theorem aBN(F:Fence)(n:Nat)(hF:rI F Tryz.prog)(hro:F.round=none)(hn:5≤n)
  (w:World) (ρ:Nat→Nat) (P:Nat) (A:Adr) (f:fZ) (J:List aR) (gr cr:Nat) (rs rj:List (Int×Int)) (hS:St w ρ P A f J) (hJl:J.length≤900000) (hn5:f.cur.length≤512) (hlt:∀r∈J,r.1<f.cur.length) (hgr:IsC w gr (cO (rs++rj)) 77) (hρr:ρ gr=0) (hcr:cr=rs.length+rj.length) (hsm:rs.length+rj.length≤maxLen):
  CallsIn F n Tryz.prog 112 #[.pointer (some ⟨P,0,none⟩),.slice (some ⟨gr,0,none⟩) rs.length cr] w (RsP w ρ P f J gr rs):=by
 have hn1:1≤n:=by omega
 subst hcr;obtain⟨ja,jp,jj,hR,hJ0⟩:=id hS;have hJ:=hJ0 (by omega);have hPl:=hR.hP.lt;refine callsIn_of_wp_marks Tryz.func112 rfl (hF.fn _) ?_ hro;simp only[Tryz.ntmps112,List.size_toArray,List.length_cons,List.length_nil,Nat.reduceAdd,Nat.reduceSub,Array.replicate_succ,Array.replicate_zero,List.push_toArray,List.append_toArray,List.nil_append,List.cons_append];obtain⟨B0,hB0⟩:=eZ (w.heap.size);obtain⟨w1,hw1⟩:=eZ (w.alloc (.cells #[.pointer (some ⟨P,0,none⟩)] 65));have hBl1:=bAl hw1;have hbx1:Boxed w1 B0 65 (.pointer (some ⟨P,0,none⟩)):=by rw[←hw1,←hB0];exact Boxed.new _ _ _
 have k1:=hbx1.cell;have hS1:=hS.below hBl1;have m7:w1.cell? ⟨P,7,none⟩=some (.slice (adr ja) jp.length (jp.length+jj.length)):=by
  rw[(hR.hP.of (hBl1.block P hPl):IsC w1 P _ _).cell];rfl
 have hfn:=hF.fn;gi_wp2_with (gi_at_call 130;refine(xU F (n-1) (hF.fn _) hro _ _ _ _).mono ?_;rintro e w' ⟨rfl,rfl⟩);obtain⟨B4,hB4⟩:=eZ (w1.heap.size);obtain⟨w4,hw4⟩:=eZ (w1.alloc (.cells #[.slice (adr ja) jp.length (jp.length+jj.length)] 69));rw[hw4,hB4];have hBl4:=bAl hw4;have hbj4:=iNw hw4 hB4;have hs1:w1.heap.size=w.heap.size+1:=by rw[←hw1];simp
 have hs4:w4.heap.size=w1.heap.size+1:=by rw[←hw4];simp
 have hBl:Bl w w4:=hBl1.trans (hBl4.mono (by omega));have hbx4:Boxed w4 B0 65 (.pointer (some ⟨P,0,none⟩)):=(hBl4.block _ (by omega)).trans hbx1;have hS4:=hS.below hBl;have hK4:JrK w4 ρ ja jp jj J J.length:=(hJ.frm (Frm.of_below (S:=fun _=>False) hBl) hR.own (fun _ e=>e.elim) (fun _ _ _=>rfl)).toK;have hcw:A.c<w.heap.size:=hR.hc.lt;have hmw:A.m<w.heap.size:=hR.hm.lt;have hjw:∀g,ja=some g→g<w.heap.size∧g≠A.c∧g≠A.m:=fun g e=>by
  obtain⟨h1,h2⟩:=hJ.arr g e;exact⟨h1.lt,fun q=>by rw[q,hR.rc]at h2;omega,fun q=>by rw[q,hR.rm]at h2;omega⟩
 have hbl:(iV jp).length=J.length:=by rw[oW];exact hJ.len
 clear hw1 hw4 k1 m7;have hOwn:OwnFrom w4.heap.size (fun(pre:List (Array Value)) W=>(∃ρ' A',St W ρ' P A' (eB f (J.drop (J.length-pre.length))) fK∧JrK W ρ' ja jp jj J (J.length-pre.length)∧A'.c=A.c∧A'.m=A.m∧(∀x,ρ' x≠0→ρ x≠0))∧Frm (fun k=>k=A.c∨k=A.m) w4 W∧Boxed W B0 65 (.pointer (some ⟨P,0,none⟩))):=by
  refine fun pre X Y row hs hg hr'=>?_;obtain⟨⟨ρ',A',h1,h2,h3,h4,h5⟩,h6,h7⟩:=hs;have hnc:∀x,row=some x→w4.heap.size≤x:=fun x e=>(hr' x e).1;obtain⟨_,_,_,hRx,_⟩:=id h1;refine⟨⟨ρ',A',h1.own hg fun x e=>⟨by have:=hnc x e;rw[h4];omega,(hr' x e).2⟩,⟨fun g e=>⟨(h2.arr g e).1.own hg fun r e=>(hr' r e).2,(h2.arr g e).2⟩,h2.nil,h2.len,fun i hi=>?_⟩,h3,h4,h5⟩,h6.own hg hnc,h7.kept hg fun e=>?_⟩
  ·obtain⟨a1,a2,a3⟩:=h2.row i hi
   refine⟨a1,a2,?_⟩;cases e:(J.getD i jr0).2.2 with
   | none=>rw[e]at a3;exact a3
   | some d=>
    rw[e]at a3;obtain⟨q,a,junk,m1,m2,m3,m4⟩:=a3;exact⟨q,a,junk,m1,m2,m3,m4.own hg fun r e=>(hr' r e).2⟩
  ·have:=hnc _ e.symm;omega
 refine tA hro hn1 (gf:=149) (lb:=#[.pointer (some ⟨B4,0,none⟩)]) (vs:=iV jp) (Kp:=KpB B4 ja) (w0:=w4) rfl (hfn _) (enters_of Tryz.func149 (by kernel_rfl) rfl)
  (fun l Jv W hW hJv hY h0=>xE F (n-1) (hfn _) hro (by omega) l B4 _ ja jp jj (by rw[hJ.len];omega) Jv _ hJv hY W (hbj4.of (hW.block _ hbj4.lt)) (fun g e=>(hK4.arr g e).1.of (hW.block g (hK4.arr g e).1.lt)) (fun e=>(hJ.nil e).1) h0)
  KpB.trans (KpB.put hbj4.lt (fun g e=>by have:=(hjw g e).1;omega)) (bQ _ _) (fun x hx=>?_)
  (fun pre W=>(∃ρ' A',St W ρ' P A' (eB f (J.drop (J.length-pre.length))) fK∧JrK W ρ' ja jp jj J (J.length-pre.length)∧A'.c=A.c∧A'.m=A.m∧(∀x,ρ' x≠0→ρ x≠0))∧Frm (fun k=>k=A.c∨k=A.m) w4 W∧Boxed W B0 65 (.pointer (some ⟨P,0,none⟩)))
  ?_ ⟨⟨ρ,A,by simpa [eB] using hS4.dead,by simpa using hK4,rfl,rfl,fun _ e=>e⟩,Frm.refl _ _,hbx4⟩ ?_ ?_
 ·unfold iV at hx
  obtain⟨i,_,rfl⟩:=List.mem_map.1 hx;rfl
 ·exact hOwn
 ·intro l pre x W hi hpre
  have hml:pre.length<jp.length:=by
   have:=hpre.length_le
   rw[oW]at this;simp at this;omega
  have hxv:x=#[.int .i64 ((jp.length-1-pre.length:Nat):Int),aGZ (jp.getD (jp.length-1-pre.length) j0)]:=by
   have h1:=zX jp hml;obtain⟨post,hpo⟩:=hpre;rw[←hpo,List.append_assoc,List.getElem?_append_right (nR _)]at h1;simp at h1;exact h1
  obtain⟨i,Hi⟩:=exH (jp.length-1-pre.length);have hiJ:i<J.length:=by rw[←hJ.len,Hi.out];omega
  have hk1:J.length-pre.length=i+1:=by rw[←hJ.len,Hi.out];omega
  have hk2:J.length -(pre++[x]).length=i:=by rw[lP,List.length_singleton,←hJ.len,Hi.out];omega
  rw[←Hi.out]at hxv;obtain⟨⟨xb,xc,xp⟩,hrow⟩:∃r,jp.getD i j0=r:=⟨_,rfl⟩;obtain⟨⟨b,cnt,nd⟩,hJi⟩:∃r,J.getD i jr0=r:=⟨_,rfl⟩;have hmem:(b,cnt,nd)∈J:=by
   rw[←hJi,gD,gE hiJ];exact List.getElem_mem _
  have hbl':b<f.cur.length:=hlt _ hmem;obtain⟨⟨ρ0,A0,g1,g2,g3,g4,g5⟩,g6,g7⟩:=id hi;rw[hk1]at g2;obtain⟨r1,r2,-⟩:=g2.row i (by omega);rw[hrow,hJi]at r1 r2;simp only at r1 r2;subst r1;have r2':=r2.symm;subst r2';clear r2;obtain⟨pv,hpv⟩:∃pv,eY xp=.pointer pv:=⟨_,rfl⟩;rw[hrow]at hxv;unfold aGZ at hxv;simp only at hxv;rw[hpv]at hxv;subst hxv;obtain⟨W',hW'⟩:=eZ (W.alloc (.cells #[.int .i64 b,.int .i64 cnt,.pointer pv] 187));obtain⟨V,hV⟩:=eZ (W.heap.size);have hsW:w4.heap.size≤V:=by rw[←hV];exact g6.size
  have hgW:W.grownBy W' none:=by rw[←hW'];exact World.grownBy_alloc _ _ none
  have hVx:IsC W' V #[.int .i64 b,.int .i64 cnt,.pointer pv] 187:=by rw[←hW',←hV];exact IsC.new _ _ _
  have hi':=hOwn _ _ _ none hi hgW (fun r e=>by cases e);have hkf:KeepsFrom w4.heap.size W W':=⟨hgW.size,fun k o _ hk _=>(hgW.block k (Array.getElem?_eq_some_iff.1 hk).1 (by simp)).trans hk⟩;have hkb:KpB B4 ja W W':=⟨hgW.size,hgW.block _ (by omega) (by simp),fun g e=>hgW.block g (by have:=(hjw g e).1;have:=hBl.size;omega) (by simp)⟩;have HSZ:=aA (aI hs1 (aI hs4 (aI hB4 hB0)));have HX:=aA (aI hkf (aI hkb (aI hi' hVx)));have HR:=aA (aI hrow (aI hJi (aI hpv (aI hk1 hk2))));clear hkf hkb hi' hVx hi g1 g2 g3 g4 g5 g6 g7 hgW hrow hJi hpv hk1 hk2 hs1 hs4 hB4 hB0;gi_wp2;obtain⟨hkf,hkb,hi',hVx⟩:=HX.out;refine⟨hkf,hkb,fun _ W2=>(fun(pre:List (Array Value)) W=>(∃ρ' A',St W ρ' P A' (eB f (J.drop (J.length-pre.length))) fK∧JrK W ρ' ja jp jj J (J.length-pre.length)∧A'.c=A.c∧A'.m=A.m∧(∀x,ρ' x≠0→ρ x≠0))∧Frm (fun k=>k=A.c∨k=A.m) w4 W∧Boxed W B0 65 (.pointer (some ⟨P,0,none⟩))) pre W2∧IsC W2 V #[.int .i64 b,.int .i64 cnt,.pointer pv] 187,fun _ X Y row hs hg hr'=>⟨hOwn _ _ _ row hs.1 hg hr',hs.2.own hg fun r e=>(hr' r e).2⟩,⟨hi',hVx⟩,?_⟩;clear hkf hkb hi' hVx HX;rintro W2 ⟨⟨⟨ρ1,A1,h1,h2,h3,h4,h5⟩,h6,h7⟩,hV2⟩;obtain⟨hrow,hJi,hpv,hk1,hk2⟩:=HR.out;rw[hk1]at h1 h2;obtain⟨_,_,r3⟩:=h2.row i (by omega);rw[hrow,hJi]at r3;simp only at r3;obtain⟨_,_,_,hR1,_⟩:=id h1;have hcl1:(eB f (J.drop (i+1))).cur.length=f.cur.length:=aGQ _ _;have nc4:W2.cell? ⟨P,4,none⟩=some (.slice (some ⟨A.c,0,none⟩) f.cur.length f.cur.length):=by
   rw[hR1.hP.cell,←h3,←hcl1];rfl
  have hbc:=h7.cell;have v0:W2.cell? ⟨V,0,none⟩=some (.int .i64 b):=hV2.c rfl;have v1:W2.cell? ⟨V,1,none⟩=some (.int .i64 cnt):=hV2.c rfl;obtain⟨nc,Hnc⟩:=exH (f.cur.length);rw[←Hnc.out]at nc4;have hq3:W2.drew.cell? ⟨B0,0,none⟩=some (.pointer (some ⟨P,0,none⟩))∧W2.drew.cell? ⟨P,4,none⟩=some (.slice (some ⟨A.c,0,none⟩) nc nc)∧W2.drew.cell? ⟨V,0,none⟩=some (.int .i64 b)∧W2.drew.cell? ⟨V,1,none⟩=some (.int .i64 cnt):=⟨hbc,nc4,v0,v1⟩;have hbi:(b:Int) <(nc:Int):=by rw[Hnc.out];omega
  have hcc:W2.cell? ⟨A.c,b,none⟩=some (.int .i64 (cu (eB f (J.drop (i+1))) b)):=by rw[←h3];exact hR1.count (by rw[hcl1];exact hbl')
  have hfz:W2.frozen? ⟨A.c,b,none⟩=false:=by rw[←h3];exact hR1.hc.frozen b
  obtain⟨u1,u2⟩:=h1.undoC h2 (b:=b) (by rw[hcl1];exact hbl') cnt;rw[h3]at u1 u2;gi_wp2;refine jA (fun W=>W.cell? ⟨B0,0,none⟩=some (.pointer (some ⟨P,0,none⟩))∧W.cell? ⟨P,4,none⟩=some (.slice (some ⟨A.c,0,none⟩) nc nc)∧W.cell? ⟨V,0,none⟩=some (.int .i64 b)∧W.cell? ⟨V,1,none⟩=some (.int .i64 cnt)) 9 (hF.inRound l) (fun _=>by omega) (by kernel_rfl) ?_ (by kernel_rfl) ?_
  ·rintro⟨a,w,h⟩;exact h
  refine tJ 0 13 (.pointer (some ⟨P,0,none⟩)) rfl hq3 ?_;simp only[Act.put,sB,sZ,sS];refine tJ 1 14 (.pointer (some ⟨P,0,none⟩)) rfl hq3 ?_;simp only[Act.put,sB,sZ,sS];refine tJ 2 15 (.pointer (some ⟨P,4,none⟩)) rfl hq3 ?_;simp only[Act.put,sB,sZ,sS];refine tJ 3 16 (.slice (some ⟨A.c,0,none⟩) nc nc) rfl hq3 ?_;simp only[Act.put,sB,sZ,sS];refine tJ 4 17 (.pointer (some ⟨V,0,none⟩)) rfl hq3 ?_;simp only[Act.put,sB,sZ,sS];refine tJ 5 18 (.int .i64 b) rfl hq3 ?_;simp only[Act.put,sB,sZ,sS];refine tJ 6 19 (.pointer (some ⟨V,1,none⟩)) rfl hq3 ?_;simp only[Act.put,sB,sZ,sS];refine tJ 7 20 (.int .i64 cnt) rfl hq3 ?_;simp only[Act.put,sB,sZ,sS];refine oE 8 rfl fun K2 hK2=>?_;go_simp;refine hK2 _ _ (fun _=>hq3) ?_;clear hK2 K2;refine oE 9 rfl fun K2 hK2=>?_;go_simp;refine hK2 _ _ (fun q=>absurd rfl q) ?_;clear hK2 K2;refine aV (by kernel_rfl) ?_ _;obtain⟨hs1,hs4,hB4,hB0⟩:=HSZ.out;have hF3:Frm (fun k=>k=A.c) W2 (W2.setCell ⟨A.c,b,none⟩ (.int .i64 cnt)).drew:=(Frm.set (S:=fun k=>k=A.c) W2 (p:=⟨A.c,b,none⟩) rfl _).trans (Frm.drew _ _);have hsz3:(W2.setCell ⟨A.c,b,none⟩ (.int .i64 cnt)).drew.heap.size=W2.heap.size:=dJ (g:=A.c) [_] W2 b;have u3:=u1.below (bQ _ _).drew;have u4:JrK (W2.setCell ⟨A.c,b,none⟩ (.int .i64 cnt)).drew ρ1 ja jp jj J (i+1):=by
   obtain⟨_,_,_,hRu,_⟩:=id u1;exact u2.frm (S:=fun _=>False) (nR _) (Frm.drew _ _) hRu.own (fun _ e=>e.elim) (fun _ _=>rfl)
  have hVc:V≠A.c:=by have:=hBl.size;omega
  have hV3:IsC (W2.setCell ⟨A.c,b,none⟩ (.int .i64 cnt)).drew V #[.int .i64 b,.int .i64 cnt,.pointer pv] 187:=hV2.frm hF3 hVc;have hbx3:Boxed (W2.setCell ⟨A.c,b,none⟩ (.int .i64 cnt)).drew B0 65 (.pointer (some ⟨P,0,none⟩)):=(hF3.block _ h7.lt (by omega)).trans h7;have HSZ2:=aA (aI hs1 (aI hs4 (aI hB4 hB0)));clear hq3 u1 u2 hcc hfz nc4 hbc v0 v1 hs1 hs4 hB4 hB0;generalize (W2.setCell ⟨A.c,b,none⟩ (.int .i64 cnt)).drew=W3 at *;have hbc:=hbx3.cell;have v0:W3.cell? ⟨V,0,none⟩=some (.int .i64 b):=hV3.c rfl;have v2:W3.cell? ⟨V,2,none⟩=some (.pointer pv):=hV3.c rfl;obtain⟨_,_,_,hR3,_⟩:=id u3;have p3:W3.cell? ⟨P,3,none⟩=some (.map (some A.m)):=by rw[←h4];exact hR3.cells.m3
  have hS3d:=u3.below (bQ W3.heap.size W3).drew;have u4d:JrK W3.drew ρ1 ja jp jj J (i+1):=u4.frm (S:=fun _=>False) (nR _) (Frm.drew _ _) hR3.own (fun _ e=>e.elim) (fun _ _=>rfl);obtain⟨_,_,_,hR3d,_⟩:=id hS3d;have hbk:=aEU (J:=J) f hiJ;rw[hJi]at hbk;cases nd with
  | none=>
   have hxp:xp=none:=r3;have hpn:pv=none:=by rw[hxp]at hpv;simp[eY]at hpv;exact hpv.symm
   subst hpn;obtain⟨w5,hr5,hM5,hF5⟩:=hR3d.hm.del b (by omega) 0;rw[h4]at hr5;obtain⟨y1,y2⟩:=hS3d.undoD u4d hM5 hF5;have HN:Hid ((∃ρ' A',St w5 ρ' P A' (eB f (J.drop i)) fK∧JrK w5 ρ' ja jp jj J i∧A'.c=A.c∧A'.m=A.m∧(∀x,ρ' x≠0→ρ x≠0))):=⟨ρ1,gO A1 b,by rw[hbk];exact y1,y2,h3,h4,h5⟩;have hq5:W3.drew.cell? ⟨B0,0,none⟩=some (.pointer (some ⟨P,0,none⟩))∧W3.drew.cell? ⟨P,3,none⟩=some (.map (some A.m))∧W3.drew.cell? ⟨V,0,none⟩=some (.int .i64 b):=⟨hbc,p3,v0⟩;clear y1 y2 hbk r3 hM5 u3 u4 hS3d u4d hR3 hR3d;have HF5:=aA hF5;clear hF5;gi_wp2;refine jA (fun W=>W.cell? ⟨B0,0,none⟩=some (.pointer (some ⟨P,0,none⟩))∧W.cell? ⟨P,3,none⟩=some (.map (some A.m))∧W.cell? ⟨V,0,none⟩=some (.int .i64 b)) 6 (hF.inRound l) (fun _=>by omega) (by kernel_rfl) ?_ (by kernel_rfl) ?_
   ·rintro⟨a,w,h⟩;exact h
   ·skip
    refine aT (i:=0) 25 (.pointer (some ⟨P,0,none⟩)) (by kernel_rfl) (by kernel_rfl) rfl (by kernel_rfl) (by kernel_rfl) (by kernel_rfl) (fun _ _ _ h=>h) rfl rfl hq5 (fun w' hw=>by obtain⟨m1,m2,m3⟩:=hw;go_simp;try rfl) ?_;simp only[Act.put,sB,sZ,sS];refine aT (i:=1) 26 (.pointer (some ⟨P,0,none⟩)) (by kernel_rfl) (by kernel_rfl) rfl (by kernel_rfl) (by kernel_rfl) (by kernel_rfl) (fun _ _ _ h=>h) rfl rfl hq5 (fun w' hw=>by obtain⟨m1,m2,m3⟩:=hw;go_simp;try rfl) ?_;simp only[Act.put,sB,sZ,sS];refine aT (i:=2) 27 (.pointer (some ⟨P,3,none⟩)) (by kernel_rfl) (by kernel_rfl) rfl (by kernel_rfl) (by kernel_rfl) (by kernel_rfl) (fun _ _ _ h=>h) rfl rfl hq5 (fun w' hw=>by obtain⟨m1,m2,m3⟩:=hw;go_simp;try rfl) ?_;simp only[Act.put,sB,sZ,sS];refine aT (i:=3) 28 (.map (some A.m)) (by kernel_rfl) (by kernel_rfl) rfl (by kernel_rfl) (by kernel_rfl) (by kernel_rfl) (fun _ _ _ h=>h) rfl rfl hq5 (fun w' hw=>by obtain⟨m1,m2,m3⟩:=hw;go_simp;try rfl) ?_;simp only[Act.put,sB,sZ,sS];refine aT (i:=4) 29 (.pointer (some ⟨V,0,none⟩)) (by kernel_rfl) (by kernel_rfl) rfl (by kernel_rfl) (by kernel_rfl) (by kernel_rfl) (fun _ _ _ h=>h) rfl rfl hq5 (fun w' hw=>by obtain⟨m1,m2,m3⟩:=hw;go_simp;try rfl) ?_;simp only[Act.put,sB,sZ,sS];refine aT (i:=5) 30 (.int .i64 b) (by kernel_rfl) (by kernel_rfl) rfl (by kernel_rfl) (by kernel_rfl) (by kernel_rfl) (fun _ _ _ h=>h) rfl rfl hq5 (fun w' hw=>by obtain⟨m1,m2,m3⟩:=hw;go_simp;try rfl) ?_;simp only[Act.put,sB,sZ,sS];refine oE 6 rfl fun K2 hK2=>?_;go_simp;refine hK2 _ _ (fun q=>absurd rfl q) ?_;clear hK2 K2;refine aV (by kernel_rfl) ?_ _;obtain⟨hs1,hs4,hB4,hB0⟩:=HSZ2.out;have hF5:=HF5.out;have hblk:∀k,k<W2.heap.size→k≠A.c→k≠A.m→w5.heap[k]?=W2.heap[k]?:=fun k hk e1 e2=>(hF5.block k (by show k<W3.heap.size;rw[hsz3];exact hk) (by rw[h4];exact e2)).trans (hF3.block k hk e1);have hFw:Frm (fun k=>k=A.c∨k=A.m) w4 w5:=((h6.trans (hF3.wide fun k _ e=>.inl e)).trans (Frm.drew _ _)).trans (hF5.wide fun k _ e=>.inr (by rw[←h4];exact e));have hsz5:W2.heap.size≤w5.heap.size:=by rw[←hsz3];exact hF5.size
    have hmW:=hBl.size;have hw4W:=h6.size;have hb5:Boxed w5 B0 65 (.pointer (some ⟨P,0,none⟩)):=(hblk _ h7.lt (by omega) (by omega)).trans h7;have hkf:KeepsFrom w4.heap.size W2 w5:=⟨hsz5,fun k o hk hko _=>(hblk k (Array.getElem?_eq_some_iff.1 hko).1 (by omega) (by omega)).trans hko⟩;have hkb:KpB B4 ja W2 w5:=⟨hsz5,hblk _ (by omega) (by omega) (by omega),fun g e=>hblk g (by have:=(hjw g e).1;omega) (hjw g e).2.1 (hjw g e).2.2⟩;have HF:=aA (aI hkf (aI hkb (aI hFw hb5)));clear hkf hkb hFw hb5 hblk hs1 hs4 hB4 hB0 hq5;gi_wp2;obtain⟨hkf,hkb,hFw,hb5⟩:=HF.out;obtain⟨ρ',A',z⟩:=HN.out;exact⟨hkf,hkb,⟨ρ',A',by rw[HR.out.2.2.2.2];exact z⟩,hFw,hb5⟩
  | some d=>
   obtain⟨qj,aj,junkj,z1,z2,z3,z4⟩:=r3;have hpn:pv=some ⟨qj,0,none⟩:=by rw[z1]at hpv;simp[eY]at hpv;exact hpv.symm
   subst hpn;have hqA:qj≠A.c:=fun e=>by have e1:=hR1.rc;rw[h3,←e,z2]at e1;unfold jS at e1;omega
   have haA:∀x,aj=some x→x≠A.c:=fun x ex e=>by have e1:=hR1.rc;rw[h3,←e,z3 x ex]at e1;unfold jV at e1;omega
   have hN3:aM W3.drew qj d aj junkj:=(z4.frm hF3 hqA haA).below (bQ W3.heap.size W3).drew;obtain⟨w5,hr5,hM5,hF5⟩:=hR3d.hm.put b qj (by omega);rw[h4]at hr5;obtain⟨ρ2,y1,y2,y3⟩:=hS3d.undoP u4d z2 z3 hN3 hM5 hF5;have HN:Hid ((∃ρ' A',St w5 ρ' P A' (eB f (J.drop i)) fK∧JrK w5 ρ' ja jp jj J i∧A'.c=A.c∧A'.m=A.m∧(∀x,ρ' x≠0→ρ x≠0))):=⟨ρ2,cT A1 b qj aj,by rw[hbk];exact y1,y2,h3,h4,fun x e=>h5 x (y3 x e)⟩;have hq5:W3.drew.cell? ⟨B0,0,none⟩=some (.pointer (some ⟨P,0,none⟩))∧W3.drew.cell? ⟨P,3,none⟩=some (.map (some A.m))∧W3.drew.cell? ⟨V,0,none⟩=some (.int .i64 b)∧W3.drew.cell? ⟨V,2,none⟩=some (.pointer (some ⟨qj,0,none⟩)):=⟨hbc,p3,v0,v2⟩;clear y1 y2 y3 hbk hM5 u3 u4 hS3d u4d hR3 hR3d hN3;have HF5:=aA hF5;clear hF5;gi_wp2;refine jA (fun W=>W.cell? ⟨B0,0,none⟩=some (.pointer (some ⟨P,0,none⟩))∧W.cell? ⟨P,3,none⟩=some (.map (some A.m))∧W.cell? ⟨V,0,none⟩=some (.int .i64 b)∧W.cell? ⟨V,2,none⟩=some (.pointer (some ⟨qj,0,none⟩))) 8 (hF.inRound l) (fun _=>by omega) (by kernel_rfl) ?_ (by kernel_rfl) ?_
   ·rintro⟨a,w,h⟩;exact h
   ·skip
    refine aT (i:=0) 31 (.pointer (some ⟨P,0,none⟩)) (by kernel_rfl) (by kernel_rfl) rfl (by kernel_rfl) (by kernel_rfl) (by kernel_rfl) (fun _ _ _ h=>h) rfl rfl hq5 (fun w' hw=>by obtain⟨m1,m2,m3,m4⟩:=hw;go_simp;try rfl) ?_;simp only[Act.put,sB,sZ,sS];refine aT (i:=1) 32 (.pointer (some ⟨P,0,none⟩)) (by kernel_rfl) (by kernel_rfl) rfl (by kernel_rfl) (by kernel_rfl) (by kernel_rfl) (fun _ _ _ h=>h) rfl rfl hq5 (fun w' hw=>by obtain⟨m1,m2,m3,m4⟩:=hw;go_simp;try rfl) ?_;simp only[Act.put,sB,sZ,sS];refine aT (i:=2) 33 (.pointer (some ⟨P,3,none⟩)) (by kernel_rfl) (by kernel_rfl) rfl (by kernel_rfl) (by kernel_rfl) (by kernel_rfl) (fun _ _ _ h=>h) rfl rfl hq5 (fun w' hw=>by obtain⟨m1,m2,m3,m4⟩:=hw;go_simp;try rfl) ?_;simp only[Act.put,sB,sZ,sS];refine aT (i:=3) 34 (.map (some A.m)) (by kernel_rfl) (by kernel_rfl) rfl (by kernel_rfl) (by kernel_rfl) (by kernel_rfl) (fun _ _ _ h=>h) rfl rfl hq5 (fun w' hw=>by obtain⟨m1,m2,m3,m4⟩:=hw;go_simp;try rfl) ?_;simp only[Act.put,sB,sZ,sS];refine aT (i:=4) 35 (.pointer (some ⟨V,0,none⟩)) (by kernel_rfl) (by kernel_rfl) rfl (by kernel_rfl) (by kernel_rfl) (by kernel_rfl) (fun _ _ _ h=>h) rfl rfl hq5 (fun w' hw=>by obtain⟨m1,m2,m3,m4⟩:=hw;go_simp;try rfl) ?_;simp only[Act.put,sB,sZ,sS];refine aT (i:=5) 36 (.int .i64 b) (by kernel_rfl) (by kernel_rfl) rfl (by kernel_rfl) (by kernel_rfl) (by kernel_rfl) (fun _ _ _ h=>h) rfl rfl hq5 (fun w' hw=>by obtain⟨m1,m2,m3,m4⟩:=hw;go_simp;try rfl) ?_;simp only[Act.put,sB,sZ,sS];refine aT (i:=6) 37 (.pointer (some ⟨V,2,none⟩)) (by kernel_rfl) (by kernel_rfl) rfl (by kernel_rfl) (by kernel_rfl) (by kernel_rfl) (fun _ _ _ h=>h) rfl rfl hq5 (fun w' hw=>by obtain⟨m1,m2,m3,m4⟩:=hw;go_simp;try rfl) ?_;simp only[Act.put,sB,sZ,sS];refine aT (i:=7) 38 (.pointer (some ⟨qj,0,none⟩)) (by kernel_rfl) (by kernel_rfl) rfl (by kernel_rfl) (by kernel_rfl) (by kernel_rfl) (fun _ _ _ h=>h) rfl rfl hq5 (fun w' hw=>by obtain⟨m1,m2,m3,m4⟩:=hw;go_simp;try rfl) ?_;simp only[Act.put,sB,sZ,sS];refine oE 8 rfl fun K2 hK2=>?_;go_simp;refine hK2 _ _ (fun q=>absurd rfl q) ?_;clear hK2 K2;refine aV (by kernel_rfl) ?_ _;obtain⟨hs1,hs4,hB4,hB0⟩:=HSZ2.out;have hF5:=HF5.out;have hblk:∀k,k<W2.heap.size→k≠A.c→k≠A.m→w5.heap[k]?=W2.heap[k]?:=fun k hk e1 e2=>(hF5.block k (by show k<W3.heap.size;rw[hsz3];exact hk) (by rw[h4];exact e2)).trans (hF3.block k hk e1);have hFw:Frm (fun k=>k=A.c∨k=A.m) w4 w5:=((h6.trans (hF3.wide fun k _ e=>.inl e)).trans (Frm.drew _ _)).trans (hF5.wide fun k _ e=>.inr (by rw[←h4];exact e));have hsz5:W2.heap.size≤w5.heap.size:=by rw[←hsz3];exact hF5.size
    have hmW:=hBl.size;have hw4W:=h6.size;have hb5:Boxed w5 B0 65 (.pointer (some ⟨P,0,none⟩)):=(hblk _ h7.lt (by omega) (by omega)).trans h7;have hkf:KeepsFrom w4.heap.size W2 w5:=⟨hsz5,fun k o hk hko _=>(hblk k (Array.getElem?_eq_some_iff.1 hko).1 (by omega) (by omega)).trans hko⟩;have hkb:KpB B4 ja W2 w5:=⟨hsz5,hblk _ (by omega) (by omega) (by omega),fun g e=>hblk g (by have:=(hjw g e).1;omega) (hjw g e).2.1 (hjw g e).2.2⟩;have HF:=aA (aI hkf (aI hkb (aI hFw hb5)));clear hkf hkb hFw hb5 hblk hs1 hs4 hB4 hB0 hq5;gi_wp2;obtain⟨hkf,hkb,hFw,hb5⟩:=HF.out;obtain⟨ρ',A',z⟩:=HN.out;exact⟨hkf,hkb,⟨ρ',A',by rw[HR.out.2.2.2.2];exact z⟩,hFw,hb5⟩
 ·rintro D W hD ⟨⟨ρ',A',h1,h2,h3,h4,h5⟩,h6,h7⟩ hK
  rw[hbl,Nat.sub_self,List.drop_zero]at h1;obtain⟨_,_,_,hRx,_⟩:=id h1;have hgc:gr≠A.c:=fun e=>by rw[e,hR.rc]at hρr;omega
  have hgm:gr≠A.m:=fun e=>by rw[e,hR.rm]at hρr;omega
  have hgW:IsC W gr (cO (rs++rj)) 77:=(hgr.of (hBl.block gr hgr.lt)).frm h6 (fun e=>by rcases e with e | e;exact hgc e;exact hgm e);have hg0:ρ' gr=0:=Nat.eq_zero_of_not_pos fun q=>h5 gr (by omega) hρr;obtain⟨q1,q2⟩:=h1.setRoots (w1:=W) (Frm.refl _ _) hgW (.inr hg0) hsm;have hbc:=h7.cell;have z0:W.cell? ⟨P,0,none⟩=some (.slice (some ⟨A'.ra,0,none⟩) (eB f J).roots.length ((eB f J).roots.length+A'.rj.length)):=by rw[hRx.hP.cell];rfl
  have zf:=hRx.hP.frozen 0;have hDP:D≠P:=by have:=hBl.size;omega
  have hK5:(W.setCell ⟨P,0,none⟩ (.slice (some ⟨gr,0,none⟩) rs.length (rs.length+rj.length))).heap[D]?=some (.deferred (some [])):=(bB _ _ hDP).trans hK;have hFw:Frm (fun k=>ρ k≠0) w (W.setCell ⟨P,0,none⟩ (.slice (some ⟨gr,0,none⟩) rs.length (rs.length+rj.length))):=by
   refine((Frm.of_below hBl).next h6 (fun x _ e=>?_)).trans (Frm.set (S:=fun k=>ρ k≠0) W (p:=⟨P,0,none⟩) (by show ρ P≠0;rw[hR.rP];omega) _);rcases e with e | e
   ·rw[e,hR.rc];omega
   ·rw[e,hR.rm];omega
  have HF:=aA (aI q1 (aI hFw hK5));have HSZ:=aA (aI hs1 (aI hs4 (aI hB4 hB0)));clear q1 q2 hFw hK5 hs1 hs4 hB4 hB0 hS4 hS1 hK4 h2 hJ hJ0 hS;gi_wp2;obtain⟨q1,hFw,hK5⟩:=HF.out;obtain⟨hs1,hs4,hB4,hB0⟩:=HSZ.out;generalize W.setCell ⟨P,0,none⟩ (.slice (some ⟨gr,0,none⟩) rs.length (rs.length+rj.length))=W5 at *;have hgr5:W5.grownBy (W5.putObj D (.deferred none)) (some D):=grownBy_putObj' W5 D _;refine⟨by simp,.inl ⟨_,_,rfl,run_takeDeferred hK5,?_⟩⟩;refine⟨.tuple #[],by simp[results,Tryz.f112,go_sem],⟨rfl,oF ρ' gr,_,q1.own hgr5 fun x e=>?_,hFw.own hgr5 fun x e=>?_,fun x hx e=>?_⟩⟩
  ·cases e;exact⟨by show D≠A'.m;rw[h4];have:=hBl.size;omega,_,hK5,rfl⟩
  ·cases e;have:=hBl.size;omega
  ·unfold oF at e;rw[if_neg hx]at e;exact h5 x e
end Go.Proofs.YtaahkgkdpnnhhaaGreat
namespace Go.Proofs.YtaahkgkdpnnhhaaGreat
open Go.RowKit Go.Shelf Fo
attribute [local go_sem] Oper.semAt_some
theorem aEG(a:Int):wrap64 (wrap64 a+1)=wrap64 (a+1):=by
 simp only[wrap64];omega
def fI(zs ys:List Int):Int:=((frs zs ys zs.length zs.length).length:Int)
theorem xD(F:Fence)(n:Nat)(hfn:∀k,F.fn k)(hro:F.round=none)(hn:3≤n)(a a':Option Addr)(c c':Nat)(zs ys:List Int)(hl:ys.length=zs.length)(hz:zs.length≤512)(hz8:8≤zs.length)(w:World)(hv:Nts w (.slice a zs.length c) zs)(hv':Nts w (.slice a' ys.length c') ys):
  CallsIn F n Tryz.prog 113 #[.slice a zs.length c,.slice a' ys.length c'] w fun e W'=>e=.returned (.int .i64 (fI zs ys))∧Bl w W':=by
 have hn1:1≤n:=by omega
 have HL:Hid (ys.length=zs.length):=hl;clear hl;refine callsIn_of_wp_marks Tryz.func113 rfl (hfn _) ?_ hro;simp only[Tryz.ntmps113,List.size_toArray,List.length_cons,List.length_nil,Nat.reduceAdd,Nat.reduceSub,Array.replicate_succ,Array.replicate_zero,List.push_toArray,List.append_toArray,List.nil_append,List.cons_append];gi_wp2_with (gi_at_call 131;refine(iY F (n-1) (hfn _) hro _ _ _ ⟨_,_,_,rfl⟩ ⟨_,_,_,rfl⟩).mono ?_;rintro e w' ⟨rfl,rfl⟩);have bR:=Boxed.new w 2 (.int .i64 0);have bS:=Boxed.new (w.alloc (.cells #[.int .i64 0] 2)) 24 (.slice a zs.length c);have bT:=Boxed.new ((w.alloc (.cells #[.int .i64 0] 2)).alloc (.cells #[.slice a zs.length c] 24)) 24 (.slice a' ys.length c');simp only[World.size_alloc]at bS bT;have hB0:Bl w (((w.alloc (.cells #[.int .i64 0] 2)).alloc (.cells #[.slice a zs.length c] 24)).alloc (.cells #[.slice a' ys.length c'] 24)):=(((bQ _ w).alloc (nR _) _).alloc (by simp) _).alloc (by simp;omega) _;refine wpIn_rangeFunc_ownF hro hn1 (gf:=150) (lb:=#[.pointer (some ⟨w.heap.size+1,0,none⟩),.pointer (some ⟨w.heap.size+1+1,0,none⟩)]) rfl (hfn _) (enters_of Tryz.func150 (by kernel_rfl) rfl)
  (mJ F (n-1) (hfn _) hro (by omega) (w.heap.size+1) (w.heap.size+1+1) w.heap.size a a' c c' zs ys HL.out hz hz8 _ (by simp) (by simp) (by simp;omega) ((bS.alloc _).cell) bT.cell w hv hv' (by omega) hB0) KpF.trans (KpF.put (by simp;omega) (by simp) (by simp)) (bQ _ _) (fun _=>rfl)
  (fun pre W=>(W.cell? ⟨w.heap.size,0,none⟩=some (.int .i64 (wrap64 (pre.length:Int)))∧W.frozen? ⟨w.heap.size,0,none⟩=false)∧Bl w W)
  (fun k pre W=>False∧Bl w W)
  (OwnFrom.and (Own.from (fun s A B row hs hg hr=>⟨cell_kept hs.1 hg hr,(frozen_kept hs.1 hg hr).trans hs.2⟩) _) (ownFrom_below (nR _) (by simp;omega)))
  (fun k=>OwnFrom.and (Own.from (fun s A B row hs hg hr=>hs) _) (ownFrom_below (nR _) (by simp;omega)))
  ⟨⟨by(have e0:wrap64 ((([]:List (Blk zs.length)).length:Nat):Int)=0:=(by simp[wrap64]));rw[e0];exact((bR.alloc _).alloc _).cell,((bR.alloc _).alloc _).frozen⟩,hB0⟩
  (fun x=>{tmps:=#[.slice a zs.length c,.slice a' ys.length c',undef,undef,.int .i64 0,.pointer (some ⟨w.heap.size,0,none⟩),.slice a zs.length c,.slice a' ys.length c',.func (.func 150) #[] #[.pointer (some ⟨w.heap.size+1,0,none⟩),.pointer (some ⟨w.heap.size+1+1,0,none⟩)],.int .i64 (x.1:Int),undef,undef,undef],defers:=[]}) ?assign ?body ?done ?stop
 case assign=>
  intro l x W K hK;gi_wp2;simpa using hK
 case body=>
  rintro l pre x W ⟨⟨hc,hf⟩,hB⟩ _;have hws:wrap64 (wrap64 (pre.length:Int)+1)=wrap64 (((pre++[x]).length:Nat):Int):=by rw[aEG];simp
  have HW:=aA hws;clear hws;generalize wrap64 (pre.length:Int)=q at *;gi_wp2;refine⟨KeepsOthers.setCell _ _ _,⟨(bQ _ W).setCell (p:=⟨w.heap.size,0,none⟩) (nR _) _,bB _ _ (by show w.heap.size+1≠w.heap.size;omega),bB _ _ (by show w.heap.size+1+1≠w.heap.size;omega)⟩,⟨?_,?_⟩,hB.setCell (p:=⟨w.heap.size,0,none⟩) (nR _) _⟩
  ·rw[World.cell?_setCell_same' _ _ _ (by rw[hc];rfl),HW.out]
  ·rw[World.frozen?_setCell];exact hf
 case done=>
  rintro D xs W hD rfl ⟨⟨hc,hf⟩,hB⟩ hK;have hfl:wrap64 (((frs zs ys zs.length zs.length).length:Nat):Int)=fI zs ys:=by
   have:=jZ zs ys zs.length zs.length
   unfold fI;simp only[wrap64];omega
  rw[hfl]at hc;gi_wp2;refine⟨by simp,.inl ⟨_,_,rfl,run_takeDeferred hK,?_⟩⟩;refine⟨.int .i64 (fI zs ys),?_,rfl,hB.trans (belowK_b (w:=w) (nR _) W D _ _ (by simp at hD;omega) hK rfl rfl)⟩;simp[results,Tryz.f113,go_sem]
 case stop=>
  rintro D k pre W hD ⟨q,hq,hpre⟩ ⟨hx,hB⟩ hK;exact hx.elim
theorem sO(w:World)(ρ:Nat→Nat)(P:Nat)(A:Adr)(f:fZ)(J:List aR)(gr:Nat)(rs rj:List (Int×Int))(hS:St w ρ P A f J)(hJl:J.length≤900000)(hn5:f.cur.length≤512)(hlt:∀r∈J,r.1<f.cur.length)(hgr:IsC w gr (cO (rs++rj)) 77)(hρr:ρ gr=0)(hsm:rs.length+rj.length≤maxLen):
  Calls Tryz.prog 112 #[.pointer (some ⟨P,0,none⟩),.slice (some ⟨gr,0,none⟩) rs.length (rs.length+rj.length)] w (RsP w ρ P f J gr rs):=
 (callsIn_wide (n:=5)).1 (aBN Fence.wide 5 (rI.wide _) rfl (nR _) w ρ P A f J gr _ rs rj hS hJl hn5 hlt hgr hρr rfl hsm)
theorem aCC(w:World):(Instr.typeAssert (.iface 169 (.agg #[])) 20 169 true).run Tryz.prog w=.ok (.tuple #[.agg #[],.bool true]) w:=by kernel_rfl
structure CtP(w:World)(ρ:Nat→Nat)(P:Nat)(f:fZ)(J:List aR)(gr:Nat)(rs:List (Int×Int))(cd:Nat)(w':World):Prop where
 ex:∃ρ' A',St w' ρ' P A' {eB f J with roots:=rs} fK∧Frm (fun k=>ρ k≠0∨k=cd) w w'∧∀x,x≠gr→ρ' x≠0→ρ x≠0
 cd:w'.cell? ⟨cd,0,none⟩=some (.int .i64 7)
theorem aBT(cd fb rb:Nat)(older:List PanicEntry)(w:World)(ρ:Nat→Nat)(P:Nat)(A:Adr)(f:fZ)(J:List aR)(gr:Nat)(rs rj:List (Int×Int))(hS:St w ρ P A f J)(hJl:J.length≤900000)(hn5:f.cur.length≤512)(hlt:∀r∈J,r.1<f.cur.length)(hgr:IsC w gr (cO (rs++rj)) 77)(hρr:ρ gr=0)(hsm:rs.length+rj.length≤maxLen)
  (hcd:IsC w cd #[.int .i64 0] 2) (hfb:IsC w fb #[.pointer (some ⟨P,0,none⟩)] 65) (hrb:IsC w rb #[.slice (some ⟨gr,0,none⟩) rs.length (rs.length+rj.length)] 55) (h0:ρ cd=0∧ρ fb=0∧ρ rb=0):
  CallsD Tryz.prog 111 #[.pointer (some ⟨cd,0,none⟩),.pointer (some ⟨fb,0,none⟩),.pointer (some ⟨rb,0,none⟩)] (.panicking ({v:=.iface 169 (.agg #[]),recovered:=false} :: older)) w fun e u' w'=>
   e=.returned (.tuple #[])∧u'=.panicking ({v:=.iface 169 (.agg #[]),recovered:=true} :: older)∧CtP w ρ P f J gr rs cd w':=by
 refine callsD_of_wpS Tryz.func111 rfl fun c₀ cs hu=>?_;refine wpS_seq ?_;refine wpS_seq ?_;apply wpS_region;simp[wpOpsS,go_sem,recoverD,hu,Tryz.ntmps111,Exit.thenS];refine wpS_of_wp ?_;simp only[Array.replicate_succ,Array.replicate_zero,List.push_toArray,List.setIfInBounds_toArray,List.set_cons_zero,List.set_cons_succ,List.append_toArray,List.nil_append,List.cons_append];obtain⟨w1,hw1⟩:=eZ (w.alloc (.cells #[] 169));have hB1:=bAl hw1;have hcd1:=hcd.of (hB1.block _ hcd.lt);have cc:w1.cell? ⟨cd,0,none⟩=some (.int .i64 0):=hcd1.c rfl;have cz:=hcd1.frozen 0;have hta:=aCC;obtain⟨w2,hw2⟩:=eZ (w1.setCell ⟨cd,0,none⟩ (.int .i64 7));have hF2:Frm (fun k=>k=cd) w w2:=by rw[←hw2];exact(Frm.of_below hB1).trans (Frm.set (S:=fun k=>k=cd) w1 (p:=⟨cd,0,none⟩) rfl _)
 have hcd2:IsC w2 cd #[.int .i64 7] 2:=by
  have:=hcd1.set 0 (.int .i64 7)
  rw[hw2]at this;exact this
 go_wp2
 refine wpS_of_wp ?_;have hS2:St w2 ρ P A f J:=hS.frm (hF2.wide fun k _ e=>by rw[e];exact h0.1);have hgr2:IsC w2 gr (cO (rs++rj)) 77:=hgr.frm hF2 (fun e=>IsC.ne (e▸hgr) hcd (by decide) rfl);have hfb2:IsC w2 fb #[.pointer (some ⟨P,0,none⟩)] 65:=hfb.frm hF2 (fun e=>IsC.ne (e▸hfb) hcd (by decide) rfl);have hrb2:IsC w2 rb #[.slice (some ⟨gr,0,none⟩) rs.length (rs.length+rj.length)] 55:=hrb.frm hF2 (fun e=>IsC.ne (e▸hrb) hcd (by decide) rfl);have d1:w2.cell? ⟨cd,0,none⟩=some (.int .i64 7):=hcd2.c rfl;have d2:w2.cell? ⟨fb,0,none⟩=some (.pointer (some ⟨P,0,none⟩)):=hfb2.c rfl;have d3:w2.cell? ⟨rb,0,none⟩=some (.slice (some ⟨gr,0,none⟩) rs.length (rs.length+rj.length)):=hrb2.c rfl;clear hw1 hw2;go_wp2_with fail;refine(sO w2 ρ P A f J gr rs rj hS2 hJl hn5 hlt hgr2 hρr hsm).mono ?_;rintro e w3 ⟨rfl,ρ3,A3,g1,g2,g3⟩;have hcd3:IsC w3 cd #[.int .i64 7] 2:=hcd2.frm g2 (fun e=>e h0.1);have HC:Hid (CtP w ρ P f J gr rs cd w3):=⟨⟨ρ3,A3,g1,(hF2.wide fun k _ e=>.inr e).trans (g2.wide fun k _ e=>.inl e),g3⟩,hcd3.c rfl⟩;clear g1 g2 g3;go_wp2;exact⟨rfl,_,rfl,.tuple #[],by simp[results,Tryz.f111,go_sem],rfl,rfl,HC.out⟩
theorem aBR(cd fb rb:Nat)(w:World)(ρ:Nat→Nat)(P:Nat)(A:Adr)(f:fZ)(J:List aR)(gr:Nat)(rs rj:List (Int×Int))(hS:St w ρ P A f J)(hJl:J.length≤900000)(hn5:f.cur.length≤512)(hlt:∀r∈J,r.1<f.cur.length)(hgr:IsC w gr (cO (rs++rj)) 77)(hρr:ρ gr=0)(hsm:rs.length+rj.length≤maxLen)
  (hcd:IsC w cd #[.int .i64 7] 2) (hfb:IsC w fb #[.pointer (some ⟨P,0,none⟩)] 65) (hrb:IsC w rb #[.slice (some ⟨gr,0,none⟩) rs.length (rs.length+rj.length)] 55) (h0:ρ cd=0∧ρ fb=0∧ρ rb=0):
  CallsD Tryz.prog 111 #[.pointer (some ⟨cd,0,none⟩),.pointer (some ⟨fb,0,none⟩),.pointer (some ⟨rb,0,none⟩)] .returning w fun e u' w'=>
   e=.returned (.tuple #[])∧u'=.returning∧CtP w ρ P f J gr rs cd w':=by
 refine callsD_of_wpS Tryz.func111 rfl fun c₀ cs hu=>?_;refine wpS_seq ?_;refine wpS_seq ?_;apply wpS_region;simp[wpOpsS,go_sem,recoverD,hu,Tryz.ntmps111,Exit.thenS];refine wpS_of_wp ?_;simp only[Array.replicate_succ,Array.replicate_zero,List.push_toArray,List.setIfInBounds_toArray,List.set_cons_zero,List.set_cons_succ,List.append_toArray,List.nil_append,List.cons_append];have d1:w.cell? ⟨cd,0,none⟩=some (.int .i64 7):=hcd.c rfl;have d2:w.cell? ⟨fb,0,none⟩=some (.pointer (some ⟨P,0,none⟩)):=hfb.c rfl;have d3:w.cell? ⟨rb,0,none⟩=some (.slice (some ⟨gr,0,none⟩) rs.length (rs.length+rj.length)):=hrb.c rfl;go_wp2;refine wpS_of_wp ?_;go_wp2_with fail;refine(sO w ρ P A f J gr rs rj hS hJl hn5 hlt hgr hρr hsm).mono ?_;rintro e w3 ⟨rfl,ρ3,A3,g1,g2,g3⟩;have hcd3:IsC w3 cd #[.int .i64 7] 2:=hcd.frm g2 (fun e=>e h0.1);have HC:Hid (CtP w ρ P f J gr rs cd w3):=⟨⟨ρ3,A3,g1,g2.wide fun k _ e=>.inl e,g3⟩,hcd3.c rfl⟩;clear g1 g2 g3;go_wp2;exact⟨rfl,_,by cases c₀;simp_all,.tuple #[],by simp[results,Tryz.f111,go_sem],rfl,rfl,HC.out⟩
theorem aGA(cd fb rb:Nat)(w:World)(hcd:IsC w cd #[.int .i64 0] 2):
  CallsD Tryz.prog 111 #[.pointer (some ⟨cd,0,none⟩),.pointer (some ⟨fb,0,none⟩),.pointer (some ⟨rb,0,none⟩)] .returning w fun e u' w'=>
   e=.returned (.tuple #[])∧u'=.returning∧w'=w:=by
 refine callsD_of_wpS Tryz.func111 rfl fun c₀ cs hu=>?_;refine wpS_seq ?_;refine wpS_seq ?_;apply wpS_region;simp[wpOpsS,go_sem,recoverD,hu,Tryz.ntmps111,Exit.thenS];refine wpS_of_wp ?_;simp only[Array.replicate_succ,Array.replicate_zero,List.push_toArray,List.setIfInBounds_toArray,List.set_cons_zero,List.set_cons_succ,List.append_toArray,List.nil_append,List.cons_append];have d1:w.cell? ⟨cd,0,none⟩=some (.int .i64 0):=hcd.c rfl;go_wp2;refine wpS_of_wp ?_;go_wp2;exact⟨rfl,_,by cases c₀;simp_all,.tuple #[],by simp[results,Tryz.f111,go_sem],rfl,rfl,rfl⟩
