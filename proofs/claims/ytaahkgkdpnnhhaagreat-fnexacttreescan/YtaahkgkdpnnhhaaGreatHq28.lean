import Derived.Defers
import Derived.Recover
import Derived.Test.YtaahkgkdpnnhhaaGreatHq18
import Derived.Test.YtaahkgkdpnnhhaaGreatFo30
set_option maxHeartbeats 9999999
set_option maxRecDepth 99999
set_option linter.all false
namespace Go.Proofs.YtaahkgkdpnnhhaaGreat
open Go.RowKit Go.Shelf Fo
attribute [local go_sem] Oper.semAt_some
section
variable {w w' : World} {ρ : Nat → Nat} {P : Nat} {A : Adr} {g : fZ} {ja : Option Nat} {jp jj : List JE} {J : List aQ}
theorem wZ{k r:Nat}(h:isN r):¬isK k r:=fun e=>h.2 (aMS e)
theorem St.undoC{k:Nat}(h:St w ρ P A g fN)(hK:JrK w ρ ja jp jj J k){b:Nat}(hb:b<g.cur.length)(v:Int):St (w.setCell ⟨A.c,b,none⟩ (.int .i64 v)) ρ P A (Fo.setC g b v) fN∧JrK (w.setCell ⟨A.c,b,none⟩ (.int .i64 v)) ρ ja jp jj J k:=by
 have hc:ρ A.c=4∧∀x,ρ x≠0→x<w.heap.size:=by obtain⟨_,_,_,h1,_⟩:=h;exact⟨h1.rc,h1.own⟩
 exact⟨(h.setC hb v).1,hK.frm (S:=fun x=>x=A.c) (nR _) (Frm.set (S:=fun x=>x=A.c) w (p:=⟨A.c,b,none⟩) rfl _) hc.2 (fun x e=>by rw[e,hc.1];exact wZ aCV) (fun _ _=>rfl)⟩
theorem St.undoD{i:Nat}(h:St w ρ P A g fN)(hK:JrK w ρ ja jp jj J (i+1)){b:Nat}(hM:dP w' A.m (upd A.φ b none))(hF:Frm (fun x=>x=A.m) w w'):St w' ρ P (gP A b) (noN g b) fN∧JrK w' ρ ja jp jj J i:=by
 have hc:ρ A.m=3∧∀x,ρ x≠0→x<w.heap.size:=by obtain⟨_,_,_,h1,_⟩:=h;exact⟨h1.rm,h1.own⟩
 exact⟨(h.del hM hF).1,hK.frm (Nat.le_succ _) hF hc.2 (fun x e=>by rw[e,hc.1];exact wZ uY) (fun _ _=>rfl)⟩
theorem St.undoP{i:Nat}(h:St w ρ P A g fN)(hK:JrK w ρ ja jp jj J (i+1)){b q:Nat}{d:Nd}{a:Option Nat}{junk:List E3}(hq:ρ q=kC i)(ha:∀x,a=some x→ρ x=kD i)(hN:aK w q d a junk)(hM:dP w' A.m (upd A.φ b (some q)))(hF:Frm (fun x=>x=A.m) w w'):
  ∃ρ',St w' ρ' P (cV A b q a) (setN g b d) fN∧JrK w' ρ' ja jp jj J i∧∀x,ρ' x≠0→ρ x≠0:=by
 have hc:ρ A.m=3∧∀x,ρ x≠0→x<w.heap.size:=by obtain⟨_,_,_,h1,_⟩:=h;exact⟨h1.rm,h1.own⟩
 have h1:=h.unrole (q:=q) (a:=a) (by rw[hq];exact qL i) (fun x e=>by rw[ha x e];exact qM i);obtain⟨h2,-⟩:=h1.put hN (by simp[aBL]) (fun x e=>by simp[aBL,e]) hM hF;refine⟨_,h2,hK.frm (Nat.le_succ _) hF hc.2 (fun x e=>by rw[e,hc.1];exact wZ uY) (fun x hx=>?_),fun x hx e0=>?_⟩
 ·have e1:x≠q:=fun e=>by rw[e,hq]at hx;exact aLW (Nat.lt_irrefl i) hx
  have e2:a≠some x:=fun e=>by rw[ha x e]at hx;exact aLX (Nat.lt_irrefl i) hx
  simp[uJ,aBL,e1,e2]
 ·have e1:x≠q:=fun e=>by rw[e,hq]at e0;unfold kC at e0;omega
  have e2:a≠some x:=fun e=>by rw[ha x e]at e0;unfold kD at e0;omega
  simp[uJ,aBL,e1,e2,e0]at hx
end
structure RsP(w:World)(ρ:Nat→Nat)(P:Nat)(f:fZ)(J:List aQ)(gr:Nat)(rs:List (Int×Int))(e:Ending)(w':World):Prop where
 e:e=.returned (.tuple #[])
 ex:∃ρ' A',St w' ρ' P A' {dY f J with roots:=rs} fN∧Frm (fun k=>ρ k≠0) w w'∧∀x,x≠gr→ρ' x≠0→ρ x≠0
theorem aFZ(f:fZ)(K:List aQ):(dY f K).cur.length=f.cur.length:=(oO f K).2.2.2.2.2
theorem aBK(F:Fence)(n:Nat)(hF:mX F Tryz.prog)(c9:F.round=none)(hn:5≤n)
  (w:World) (ρ:Nat→Nat) (P:Nat) (A:Adr) (f:fZ) (J:List aQ) (gr cr:Nat) (rs rj:List (Int×Int)) (hS:St w ρ P A f J) (ku:J.length≤900000) (Bj:f.cur.length≤512) (ai:∀r∈J,r.1<f.cur.length) (bm:IsC w gr (cS (rs++rj)) 77) (GR:ρ gr=0) (Gn:cr=rs.length+rj.length) (lv:rs.length+rj.length≤maxLen):
  CallsIn F n Tryz.prog 112 #[.pointer (some ⟨P,0,none⟩),.slice (some ⟨gr,0,none⟩) rs.length cr] w (RsP w ρ P f J gr rs):=by
 have nk:1≤n:=by omega
 subst Gn;obtain⟨ja,jp,jj,hR,Ki⟩:=id hS;have hJ:=Ki (by omega);have DL:=hR.hP.lt;refine callsIn_of_wp_marks Tryz.func112 rfl (hF.fn _) ?_ c9;simp only[Tryz.ntmps112,List.size_toArray,List.length_cons,List.length_nil,Nat.reduceAdd,Nat.reduceSub,Array.replicate_succ,Array.replicate_zero,List.push_toArray,List.append_toArray,List.nil_append,List.cons_append];obtain⟨B0,cw⟩:=eZ (w.heap.size);obtain⟨w1,bh⟩:=eZ (w.alloc (.cells #[.pointer (some ⟨P,0,none⟩)] 65));have II:=bAl bh;have EG:Boxed w1 B0 65 (.pointer (some ⟨P,0,none⟩)):=by rw[←bh,←cw];exact Boxed.new _ _ _
 have k1:=EG.cell;have br:=hS.below II;have m7:w1.cell? ⟨P,7,none⟩=some (.slice (adr ja) jp.length (jp.length+jj.length)):=by
  rw[(hR.hP.of (II.block P DL):IsC w1 P _ _).cell];rfl
 have pa:=hF.fn;gi_wp2_with (gi_at_call 130;refine(xX F (n-1) (hF.fn _) c9 _ _ _ _).mono ?_;rintro e w' ⟨rfl,rfl⟩);obtain⟨B4,dq⟩:=eZ (w1.heap.size);obtain⟨w4,cn⟩:=eZ (w1.alloc (.cells #[.slice (adr ja) jp.length (jp.length+jj.length)] 69));rw[cn,dq];have Lq:=bAl cn;have I7:=iNw cn dq;have jx:w1.heap.size=w.heap.size+1:=by rw[←bh];simp
 have yn:w4.heap.size=w1.heap.size+1:=by rw[←cn];simp
 have xf:Bl w w4:=II.trans (Lq.mono (by omega));have kj:Boxed w4 B0 65 (.pointer (some ⟨P,0,none⟩)):=(Lq.block _ (by omega)).trans EG;have aw:=hS.below xf;have OF:JrK w4 ρ ja jp jj J J.length:=(hJ.frm (Frm.of_below (S:=fun _=>False) xf) hR.own (fun _ e=>e.elim) (fun _ _ _=>rfl)).toK;have OO:A.c<w.heap.size:=hR.hc.lt;have Tz:A.m<w.heap.size:=hR.hm.lt;have Gw:∀g,ja=some g→g<w.heap.size∧g≠A.c∧g≠A.m:=fun g e=>by
  obtain⟨h1,h2⟩:=hJ.arr g e;exact⟨h1.lt,fun q=>by rw[q,hR.rc]at h2;omega,fun q=>by rw[q,hR.rm]at h2;omega⟩
 have d9:(iR jp).length=J.length:=by rw[oN];exact hJ.len
 clear bh cn k1 m7;have Ia:OwnFrom w4.heap.size (fun(pre:List (Array Value)) W=>(∃ρ' A',St W ρ' P A' (dY f (J.drop (J.length-pre.length))) fN∧JrK W ρ' ja jp jj J (J.length-pre.length)∧A'.c=A.c∧A'.m=A.m∧(∀x,ρ' x≠0→ρ x≠0))∧Frm (fun k=>k=A.c∨k=A.m) w4 W∧Boxed W B0 65 (.pointer (some ⟨P,0,none⟩))):=by
  refine fun pre X Y row hs hg jo=>?_;obtain⟨⟨ρ',A',h1,h2,h3,h4,h5⟩,h6,h7⟩:=hs;have CW:∀x,row=some x→w4.heap.size≤x:=fun x e=>(jo x e).1;obtain⟨_,_,_,Px,_⟩:=id h1;refine⟨⟨ρ',A',h1.own hg fun x e=>⟨by have:=CW x e;rw[h4];omega,(jo x e).2⟩,⟨fun g e=>⟨(h2.arr g e).1.own hg fun r e=>(jo r e).2,(h2.arr g e).2⟩,h2.nil,h2.len,fun i hi=>?_⟩,h3,h4,h5⟩,h6.own hg CW,h7.kept hg fun e=>?_⟩
  ·obtain⟨a1,a2,a3⟩:=h2.row i hi
   refine⟨a1,a2,?_⟩;cases e:(J.getD i jr0).2.2 with
   | none=>rw[e]at a3;exact a3
   | some d=>
    rw[e]at a3;obtain⟨q,a,junk,m1,m2,m3,m4⟩:=a3;exact⟨q,a,junk,m1,m2,m3,m4.own hg fun r e=>(jo r e).2⟩
  ·have:=CW _ e.symm;omega
 refine tR c9 nk (gf:=149) (lb:=#[.pointer (some ⟨B4,0,none⟩)]) (vs:=iR jp) (Kp:=KpB B4 ja) (w0:=w4) rfl (pa _) (enters_of Tryz.func149 (by kernel_rfl) rfl)
  (fun l Jv W hW VX hY h0=>vX F (n-1) (pa _) c9 (by omega) l B4 _ ja jp jj (by rw[hJ.len];omega) Jv _ VX hY W (I7.of (hW.block _ I7.lt)) (fun g e=>(OF.arr g e).1.of (hW.block g (OF.arr g e).1.lt)) (fun e=>(hJ.nil e).1) h0)
  KpB.trans (KpB.put I7.lt (fun g e=>by have:=(Gw g e).1;omega)) (bQ _ _) (fun x hx=>?_)
  (fun pre W=>(∃ρ' A',St W ρ' P A' (dY f (J.drop (J.length-pre.length))) fN∧JrK W ρ' ja jp jj J (J.length-pre.length)∧A'.c=A.c∧A'.m=A.m∧(∀x,ρ' x≠0→ρ x≠0))∧Frm (fun k=>k=A.c∨k=A.m) w4 W∧Boxed W B0 65 (.pointer (some ⟨P,0,none⟩)))
  ?_ ⟨⟨ρ,A,by simpa [dY] using aw.dead,by simpa using OF,rfl,rfl,fun _ e=>e⟩,Frm.refl _ _,kj⟩ ?_ ?_
 ·unfold iR at hx
  obtain⟨i,_,rfl⟩:=List.mem_map.1 hx;rfl
 ·exact Ia
 ·intro l pre x W hi lg
  have CV:pre.length<jp.length:=by
   have:=lg.length_le
   rw[oN]at this;simp at this;omega
  have C7:x=#[.int .i64 ((jp.length-1-pre.length:Nat):Int),aHZ (jp.getD (jp.length-1-pre.length) j0)]:=by
   have h1:=xW jp CV;obtain⟨post,KD⟩:=lg;rw[←KD,List.append_assoc,List.getElem?_append_right (nR _)]at h1;simp at h1;exact h1
  obtain⟨i,Hi⟩:=exH (jp.length-1-pre.length);have Tt:i<J.length:=by rw[←hJ.len,Hi.out];omega
  have fw:J.length-pre.length=i+1:=by rw[←hJ.len,Hi.out];omega
  have uh:J.length -(pre++[x]).length=i:=by rw[lP,List.length_singleton,←hJ.len,Hi.out];omega
  rw[←Hi.out]at C7;obtain⟨⟨xb,xc,xp⟩,og⟩:∃r,jp.getD i j0=r:=⟨_,rfl⟩;obtain⟨⟨b,cnt,nd⟩,IS⟩:∃r,J.getD i jr0=r:=⟨_,rfl⟩;have jw:(b,cnt,nd)∈J:=by
   rw[←IS,gD,gE Tt];exact List.getElem_mem _
  have MV:b<f.cur.length:=ai _ jw;obtain⟨⟨ρ0,A0,g1,g2,g3,g4,g5⟩,g6,g7⟩:=id hi;rw[fw]at g2;obtain⟨r1,r2,-⟩:=g2.row i (by omega);rw[og,IS]at r1 r2;simp only at r1 r2;subst r1;have r2':=r2.symm;subst r2';clear r2;obtain⟨pv,DQ⟩:∃pv,eT xp=.pointer pv:=⟨_,rfl⟩;rw[og]at C7;unfold aHZ at C7;simp only at C7;rw[DQ]at C7;subst C7;obtain⟨W',Im⟩:=eZ (W.alloc (.cells #[.int .i64 b,.int .i64 cnt,.pointer pv] 187));obtain⟨V,hV⟩:=eZ (W.heap.size);have FG:w4.heap.size≤V:=by rw[←hV];exact g6.size
  have EQ:W.grownBy W' none:=by rw[←Im];exact World.grownBy_alloc _ _ none
  have E4:IsC W' V #[.int .i64 b,.int .i64 cnt,.pointer pv] 187:=by rw[←Im,←hV];exact IsC.new _ _ _
  have ak:=Ia _ _ _ none hi EQ (fun r e=>by cases e);have lc:KeepsFrom w4.heap.size W W':=⟨EQ.size,fun k o _ hk _=>(EQ.block k (Array.getElem?_eq_some_iff.1 hk).1 (by simp)).trans hk⟩;have yh:KpB B4 ja W W':=⟨EQ.size,EQ.block _ (by omega) (by simp),fun g e=>EQ.block g (by have:=(Gw g e).1;have:=xf.size;omega) (by simp)⟩;have lh:=aA (aI jx (aI yn (aI dq cw)));have HX:=aA (aI lc (aI yh (aI ak E4)));have HR:=aA (aI og (aI IS (aI DQ (aI fw uh))));clear lc yh ak E4 hi g1 g2 g3 g4 g5 g6 g7 EQ og IS DQ fw uh jx yn dq cw;gi_wp2;obtain⟨lc,yh,ak,E4⟩:=HX.out;refine⟨lc,yh,fun _ W2=>(fun(pre:List (Array Value)) W=>(∃ρ' A',St W ρ' P A' (dY f (J.drop (J.length-pre.length))) fN∧JrK W ρ' ja jp jj J (J.length-pre.length)∧A'.c=A.c∧A'.m=A.m∧(∀x,ρ' x≠0→ρ x≠0))∧Frm (fun k=>k=A.c∨k=A.m) w4 W∧Boxed W B0 65 (.pointer (some ⟨P,0,none⟩))) pre W2∧IsC W2 V #[.int .i64 b,.int .i64 cnt,.pointer pv] 187,fun _ X Y row hs hg jo=>⟨Ia _ _ _ row hs.1 hg jo,hs.2.own hg fun r e=>(jo r e).2⟩,⟨ak,E4⟩,?_⟩;clear lc yh ak E4 HX;rintro W2 ⟨⟨⟨ρ1,A1,h1,h2,h3,h4,h5⟩,h6,h7⟩,sk⟩;obtain⟨og,IS,DQ,fw,uh⟩:=HR.out;rw[fw]at h1 h2;obtain⟨_,_,r3⟩:=h2.row i (by omega);rw[og,IS]at r3;simp only at r3;obtain⟨_,_,_,iq,_⟩:=id h1;have Cs:(dY f (J.drop (i+1))).cur.length=f.cur.length:=aFZ _ _;have nc4:W2.cell? ⟨P,4,none⟩=some (.slice (some ⟨A.c,0,none⟩) f.cur.length f.cur.length):=by
   rw[iq.hP.cell,←h3,←Cs];rfl
  have nz:=h7.cell;have v0:W2.cell? ⟨V,0,none⟩=some (.int .i64 b):=sk.c rfl;have v1:W2.cell? ⟨V,1,none⟩=some (.int .i64 cnt):=sk.c rfl;obtain⟨nc,Sk⟩:=exH (f.cur.length);rw[←Sk.out]at nc4;have rk:W2.drew.cell? ⟨B0,0,none⟩=some (.pointer (some ⟨P,0,none⟩))∧W2.drew.cell? ⟨P,4,none⟩=some (.slice (some ⟨A.c,0,none⟩) nc nc)∧W2.drew.cell? ⟨V,0,none⟩=some (.int .i64 b)∧W2.drew.cell? ⟨V,1,none⟩=some (.int .i64 cnt):=⟨nz,nc4,v0,v1⟩;have DN:(b:Int) <(nc:Int):=by rw[Sk.out];omega
  have kz:W2.cell? ⟨A.c,b,none⟩=some (.int .i64 (cu (dY f (J.drop (i+1))) b)):=by rw[←h3];exact iq.count (by rw[Cs];exact MV)
  have Ks:W2.frozen? ⟨A.c,b,none⟩=false:=by rw[←h3];exact iq.hc.frozen b
  obtain⟨u1,u2⟩:=h1.undoC h2 (b:=b) (by rw[Cs];exact MV) cnt;rw[h3]at u1 u2;gi_wp2;refine jC (fun W=>W.cell? ⟨B0,0,none⟩=some (.pointer (some ⟨P,0,none⟩))∧W.cell? ⟨P,4,none⟩=some (.slice (some ⟨A.c,0,none⟩) nc nc)∧W.cell? ⟨V,0,none⟩=some (.int .i64 b)∧W.cell? ⟨V,1,none⟩=some (.int .i64 cnt)) 9 (hF.inRound l) (fun _=>by omega) (by kernel_rfl) ?_ (by kernel_rfl) ?_
  ·rintro⟨a,w,h⟩;exact h
  refine tJ 0 13 (.pointer (some ⟨P,0,none⟩)) rfl rk ?_;simp only[Act.put,sB,sZ,sS];refine tJ 1 14 (.pointer (some ⟨P,0,none⟩)) rfl rk ?_;simp only[Act.put,sB,sZ,sS];refine tJ 2 15 (.pointer (some ⟨P,4,none⟩)) rfl rk ?_;simp only[Act.put,sB,sZ,sS];refine tJ 3 16 (.slice (some ⟨A.c,0,none⟩) nc nc) rfl rk ?_;simp only[Act.put,sB,sZ,sS];refine tJ 4 17 (.pointer (some ⟨V,0,none⟩)) rfl rk ?_;simp only[Act.put,sB,sZ,sS];refine tJ 5 18 (.int .i64 b) rfl rk ?_;simp only[Act.put,sB,sZ,sS];refine tJ 6 19 (.pointer (some ⟨V,1,none⟩)) rfl rk ?_;simp only[Act.put,sB,sZ,sS];refine tJ 7 20 (.int .i64 cnt) rfl rk ?_;simp only[Act.put,sB,sZ,sS];refine oE 8 rfl fun K2 ae=>?_;go_simp;refine ae _ _ (fun _=>rk) ?_;clear ae K2;refine oE 9 rfl fun K2 ae=>?_;go_simp;refine ae _ _ (fun q=>absurd rfl q) ?_;clear ae K2;refine aW (by kernel_rfl) ?_ _;obtain⟨jx,yn,dq,cw⟩:=lh.out;have bu:Frm (fun k=>k=A.c) W2 (W2.setCell ⟨A.c,b,none⟩ (.int .i64 cnt)).drew:=(Frm.set (S:=fun k=>k=A.c) W2 (p:=⟨A.c,b,none⟩) rfl _).trans (Frm.drew _ _);have AZ:(W2.setCell ⟨A.c,b,none⟩ (.int .i64 cnt)).drew.heap.size=W2.heap.size:=cZ (g:=A.c) [_] W2 b;have u3:=u1.below (bQ _ _).drew;have u4:JrK (W2.setCell ⟨A.c,b,none⟩ (.int .i64 cnt)).drew ρ1 ja jp jj J (i+1):=by
   obtain⟨_,_,_,Vh,_⟩:=id u1;exact u2.frm (S:=fun _=>False) (nR _) (Frm.drew _ _) Vh.own (fun _ e=>e.elim) (fun _ _=>rfl)
  have Vl:V≠A.c:=by have:=xf.size;omega
  have E2:IsC (W2.setCell ⟨A.c,b,none⟩ (.int .i64 cnt)).drew V #[.int .i64 b,.int .i64 cnt,.pointer pv] 187:=sk.frm bu Vl;have ki:Boxed (W2.setCell ⟨A.c,b,none⟩ (.int .i64 cnt)).drew B0 65 (.pointer (some ⟨P,0,none⟩)):=(bu.block _ h7.lt (by omega)).trans h7;have Lg:=aA (aI jx (aI yn (aI dq cw)));clear rk u1 u2 kz Ks nc4 nz v0 v1 jx yn dq cw;generalize (W2.setCell ⟨A.c,b,none⟩ (.int .i64 cnt)).drew=W3 at *;have nz:=ki.cell;have v0:W3.cell? ⟨V,0,none⟩=some (.int .i64 b):=E2.c rfl;have v2:W3.cell? ⟨V,2,none⟩=some (.pointer pv):=E2.c rfl;obtain⟨_,_,_,qn,_⟩:=id u3;have p3:W3.cell? ⟨P,3,none⟩=some (.map (some A.m)):=by rw[←h4];exact qn.cells.m3
  have Dr:=u3.below (bQ W3.heap.size W3).drew;have u4d:JrK W3.drew ρ1 ja jp jj J (i+1):=u4.frm (S:=fun _=>False) (nR _) (Frm.drew _ _) qn.own (fun _ e=>e.elim) (fun _ _=>rfl);obtain⟨_,_,_,Fj,_⟩:=id Dr;have qa:=aDP (J:=J) f Tt;rw[IS]at qa;cases nd with
  | none=>
   have Xj:xp=none:=r3;have G9:pv=none:=by rw[Xj]at DQ;simp[eT]at DQ;exact DQ.symm
   subst G9;obtain⟨w5,FD,ng,er⟩:=Fj.hm.del b (by omega) 0;rw[h4]at FD;obtain⟨y1,y2⟩:=Dr.undoD u4d ng er;have HN:Hid ((∃ρ' A',St w5 ρ' P A' (dY f (J.drop i)) fN∧JrK w5 ρ' ja jp jj J i∧A'.c=A.c∧A'.m=A.m∧(∀x,ρ' x≠0→ρ x≠0))):=⟨ρ1,gP A1 b,by rw[qa];exact y1,y2,h3,h4,h5⟩;have oe:W3.drew.cell? ⟨B0,0,none⟩=some (.pointer (some ⟨P,0,none⟩))∧W3.drew.cell? ⟨P,3,none⟩=some (.map (some A.m))∧W3.drew.cell? ⟨V,0,none⟩=some (.int .i64 b):=⟨nz,p3,v0⟩;clear y1 y2 qa r3 ng u3 u4 Dr u4d qn Fj;have uz:=aA er;clear er;gi_wp2;refine jC (fun W=>W.cell? ⟨B0,0,none⟩=some (.pointer (some ⟨P,0,none⟩))∧W.cell? ⟨P,3,none⟩=some (.map (some A.m))∧W.cell? ⟨V,0,none⟩=some (.int .i64 b)) 6 (hF.inRound l) (fun _=>by omega) (by kernel_rfl) ?_ (by kernel_rfl) ?_
   ·rintro⟨a,w,h⟩;exact h
   ·skip
    refine aU (i:=0) 25 (.pointer (some ⟨P,0,none⟩)) (by kernel_rfl) (by kernel_rfl) rfl (by kernel_rfl) (by kernel_rfl) (by kernel_rfl) (fun _ _ _ h=>h) rfl rfl oe (fun w' hw=>by obtain⟨m1,m2,m3⟩:=hw;go_simp;try rfl) ?_;simp only[Act.put,sB,sZ,sS];refine aU (i:=1) 26 (.pointer (some ⟨P,0,none⟩)) (by kernel_rfl) (by kernel_rfl) rfl (by kernel_rfl) (by kernel_rfl) (by kernel_rfl) (fun _ _ _ h=>h) rfl rfl oe (fun w' hw=>by obtain⟨m1,m2,m3⟩:=hw;go_simp;try rfl) ?_;simp only[Act.put,sB,sZ,sS];refine aU (i:=2) 27 (.pointer (some ⟨P,3,none⟩)) (by kernel_rfl) (by kernel_rfl) rfl (by kernel_rfl) (by kernel_rfl) (by kernel_rfl) (fun _ _ _ h=>h) rfl rfl oe (fun w' hw=>by obtain⟨m1,m2,m3⟩:=hw;go_simp;try rfl) ?_;simp only[Act.put,sB,sZ,sS];refine aU (i:=3) 28 (.map (some A.m)) (by kernel_rfl) (by kernel_rfl) rfl (by kernel_rfl) (by kernel_rfl) (by kernel_rfl) (fun _ _ _ h=>h) rfl rfl oe (fun w' hw=>by obtain⟨m1,m2,m3⟩:=hw;go_simp;try rfl) ?_;simp only[Act.put,sB,sZ,sS];refine aU (i:=4) 29 (.pointer (some ⟨V,0,none⟩)) (by kernel_rfl) (by kernel_rfl) rfl (by kernel_rfl) (by kernel_rfl) (by kernel_rfl) (fun _ _ _ h=>h) rfl rfl oe (fun w' hw=>by obtain⟨m1,m2,m3⟩:=hw;go_simp;try rfl) ?_;simp only[Act.put,sB,sZ,sS];refine aU (i:=5) 30 (.int .i64 b) (by kernel_rfl) (by kernel_rfl) rfl (by kernel_rfl) (by kernel_rfl) (by kernel_rfl) (fun _ _ _ h=>h) rfl rfl oe (fun w' hw=>by obtain⟨m1,m2,m3⟩:=hw;go_simp;try rfl) ?_;simp only[Act.put,sB,sZ,sS];refine oE 6 rfl fun K2 ae=>?_;go_simp;refine ae _ _ (fun q=>absurd rfl q) ?_;clear ae K2;refine aW (by kernel_rfl) ?_ _;obtain⟨jx,yn,dq,cw⟩:=Lg.out;have er:=uz.out;have io:∀k,k<W2.heap.size→k≠A.c→k≠A.m→w5.heap[k]?=W2.heap[k]?:=fun k hk e1 e2=>(er.block k (by show k<W3.heap.size;rw[AZ];exact hk) (by rw[h4];exact e2)).trans (bu.block k hk e1);have CD:Frm (fun k=>k=A.c∨k=A.m) w4 w5:=((h6.trans (bu.wide fun k _ e=>.inl e)).trans (Frm.drew _ _)).trans (er.wide fun k _ e=>.inr (by rw[←h4];exact e));have C5:W2.heap.size≤w5.heap.size:=by rw[←AZ];exact er.size
    have Wl:=xf.size;have R2:=h6.size;have et:Boxed w5 B0 65 (.pointer (some ⟨P,0,none⟩)):=(io _ h7.lt (by omega) (by omega)).trans h7;have lc:KeepsFrom w4.heap.size W2 w5:=⟨C5,fun k o hk ze _=>(io k (Array.getElem?_eq_some_iff.1 ze).1 (by omega) (by omega)).trans ze⟩;have yh:KpB B4 ja W2 w5:=⟨C5,io _ (by omega) (by omega) (by omega),fun g e=>io g (by have:=(Gw g e).1;omega) (Gw g e).2.1 (Gw g e).2.2⟩;have HF:=aA (aI lc (aI yh (aI CD et)));clear lc yh CD et io jx yn dq cw oe;gi_wp2;obtain⟨lc,yh,CD,et⟩:=HF.out;obtain⟨ρ',A',z⟩:=HN.out;exact⟨lc,yh,⟨ρ',A',by rw[HR.out.2.2.2.2];exact z⟩,CD,et⟩
  | some d=>
   obtain⟨qj,aj,junkj,z1,z2,z3,z4⟩:=r3;have G9:pv=some ⟨qj,0,none⟩:=by rw[z1]at DQ;simp[eT]at DQ;exact DQ.symm
   subst G9;have Rc:qj≠A.c:=fun e=>by have e1:=iq.rc;rw[h3,←e,z2]at e1;unfold kC at e1;omega
   have Vp:∀x,aj=some x→x≠A.c:=fun x ex e=>by have e1:=iq.rc;rw[h3,←e,z3 x ex]at e1;unfold kD at e1;omega
   have qz:aK W3.drew qj d aj junkj:=(z4.frm bu Rc Vp).below (bQ W3.heap.size W3).drew;obtain⟨w5,FD,ng,er⟩:=Fj.hm.put b qj (by omega);rw[h4]at FD;obtain⟨ρ2,y1,y2,y3⟩:=Dr.undoP u4d z2 z3 qz ng er;have HN:Hid ((∃ρ' A',St w5 ρ' P A' (dY f (J.drop i)) fN∧JrK w5 ρ' ja jp jj J i∧A'.c=A.c∧A'.m=A.m∧(∀x,ρ' x≠0→ρ x≠0))):=⟨ρ2,cV A1 b qj aj,by rw[qa];exact y1,y2,h3,h4,fun x e=>h5 x (y3 x e)⟩;have oe:W3.drew.cell? ⟨B0,0,none⟩=some (.pointer (some ⟨P,0,none⟩))∧W3.drew.cell? ⟨P,3,none⟩=some (.map (some A.m))∧W3.drew.cell? ⟨V,0,none⟩=some (.int .i64 b)∧W3.drew.cell? ⟨V,2,none⟩=some (.pointer (some ⟨qj,0,none⟩)):=⟨nz,p3,v0,v2⟩;clear y1 y2 y3 qa ng u3 u4 Dr u4d qn Fj qz;have uz:=aA er;clear er;gi_wp2;refine jC (fun W=>W.cell? ⟨B0,0,none⟩=some (.pointer (some ⟨P,0,none⟩))∧W.cell? ⟨P,3,none⟩=some (.map (some A.m))∧W.cell? ⟨V,0,none⟩=some (.int .i64 b)∧W.cell? ⟨V,2,none⟩=some (.pointer (some ⟨qj,0,none⟩))) 8 (hF.inRound l) (fun _=>by omega) (by kernel_rfl) ?_ (by kernel_rfl) ?_
   ·rintro⟨a,w,h⟩;exact h
   ·skip
    refine aU (i:=0) 31 (.pointer (some ⟨P,0,none⟩)) (by kernel_rfl) (by kernel_rfl) rfl (by kernel_rfl) (by kernel_rfl) (by kernel_rfl) (fun _ _ _ h=>h) rfl rfl oe (fun w' hw=>by obtain⟨m1,m2,m3,m4⟩:=hw;go_simp;try rfl) ?_;simp only[Act.put,sB,sZ,sS];refine aU (i:=1) 32 (.pointer (some ⟨P,0,none⟩)) (by kernel_rfl) (by kernel_rfl) rfl (by kernel_rfl) (by kernel_rfl) (by kernel_rfl) (fun _ _ _ h=>h) rfl rfl oe (fun w' hw=>by obtain⟨m1,m2,m3,m4⟩:=hw;go_simp;try rfl) ?_;simp only[Act.put,sB,sZ,sS];refine aU (i:=2) 33 (.pointer (some ⟨P,3,none⟩)) (by kernel_rfl) (by kernel_rfl) rfl (by kernel_rfl) (by kernel_rfl) (by kernel_rfl) (fun _ _ _ h=>h) rfl rfl oe (fun w' hw=>by obtain⟨m1,m2,m3,m4⟩:=hw;go_simp;try rfl) ?_;simp only[Act.put,sB,sZ,sS];refine aU (i:=3) 34 (.map (some A.m)) (by kernel_rfl) (by kernel_rfl) rfl (by kernel_rfl) (by kernel_rfl) (by kernel_rfl) (fun _ _ _ h=>h) rfl rfl oe (fun w' hw=>by obtain⟨m1,m2,m3,m4⟩:=hw;go_simp;try rfl) ?_;simp only[Act.put,sB,sZ,sS];refine aU (i:=4) 35 (.pointer (some ⟨V,0,none⟩)) (by kernel_rfl) (by kernel_rfl) rfl (by kernel_rfl) (by kernel_rfl) (by kernel_rfl) (fun _ _ _ h=>h) rfl rfl oe (fun w' hw=>by obtain⟨m1,m2,m3,m4⟩:=hw;go_simp;try rfl) ?_;simp only[Act.put,sB,sZ,sS];refine aU (i:=5) 36 (.int .i64 b) (by kernel_rfl) (by kernel_rfl) rfl (by kernel_rfl) (by kernel_rfl) (by kernel_rfl) (fun _ _ _ h=>h) rfl rfl oe (fun w' hw=>by obtain⟨m1,m2,m3,m4⟩:=hw;go_simp;try rfl) ?_;simp only[Act.put,sB,sZ,sS];refine aU (i:=6) 37 (.pointer (some ⟨V,2,none⟩)) (by kernel_rfl) (by kernel_rfl) rfl (by kernel_rfl) (by kernel_rfl) (by kernel_rfl) (fun _ _ _ h=>h) rfl rfl oe (fun w' hw=>by obtain⟨m1,m2,m3,m4⟩:=hw;go_simp;try rfl) ?_;simp only[Act.put,sB,sZ,sS];refine aU (i:=7) 38 (.pointer (some ⟨qj,0,none⟩)) (by kernel_rfl) (by kernel_rfl) rfl (by kernel_rfl) (by kernel_rfl) (by kernel_rfl) (fun _ _ _ h=>h) rfl rfl oe (fun w' hw=>by obtain⟨m1,m2,m3,m4⟩:=hw;go_simp;try rfl) ?_;simp only[Act.put,sB,sZ,sS];refine oE 8 rfl fun K2 ae=>?_;go_simp;refine ae _ _ (fun q=>absurd rfl q) ?_;clear ae K2;refine aW (by kernel_rfl) ?_ _;obtain⟨jx,yn,dq,cw⟩:=Lg.out;have er:=uz.out;have io:∀k,k<W2.heap.size→k≠A.c→k≠A.m→w5.heap[k]?=W2.heap[k]?:=fun k hk e1 e2=>(er.block k (by show k<W3.heap.size;rw[AZ];exact hk) (by rw[h4];exact e2)).trans (bu.block k hk e1);have CD:Frm (fun k=>k=A.c∨k=A.m) w4 w5:=((h6.trans (bu.wide fun k _ e=>.inl e)).trans (Frm.drew _ _)).trans (er.wide fun k _ e=>.inr (by rw[←h4];exact e));have C5:W2.heap.size≤w5.heap.size:=by rw[←AZ];exact er.size
    have Wl:=xf.size;have R2:=h6.size;have et:Boxed w5 B0 65 (.pointer (some ⟨P,0,none⟩)):=(io _ h7.lt (by omega) (by omega)).trans h7;have lc:KeepsFrom w4.heap.size W2 w5:=⟨C5,fun k o hk ze _=>(io k (Array.getElem?_eq_some_iff.1 ze).1 (by omega) (by omega)).trans ze⟩;have yh:KpB B4 ja W2 w5:=⟨C5,io _ (by omega) (by omega) (by omega),fun g e=>io g (by have:=(Gw g e).1;omega) (Gw g e).2.1 (Gw g e).2.2⟩;have HF:=aA (aI lc (aI yh (aI CD et)));clear lc yh CD et io jx yn dq cw oe;gi_wp2;obtain⟨lc,yh,CD,et⟩:=HF.out;obtain⟨ρ',A',z⟩:=HN.out;exact⟨lc,yh,⟨ρ',A',by rw[HR.out.2.2.2.2];exact z⟩,CD,et⟩
 ·rintro D W hD ⟨⟨ρ',A',h1,h2,h3,h4,h5⟩,h6,h7⟩ hK
  rw[d9,Nat.sub_self,List.drop_zero]at h1;obtain⟨_,_,_,Px,_⟩:=id h1;have bp:gr≠A.c:=fun e=>by rw[e,hR.rc]at GR;omega
  have AK:gr≠A.m:=fun e=>by rw[e,hR.rm]at GR;omega
  have EQ:IsC W gr (cS (rs++rj)) 77:=(bm.of (xf.block gr bm.lt)).frm h6 (fun e=>by rcases e with e | e;exact bp e;exact AK e);have vm:ρ' gr=0:=Nat.eq_zero_of_not_pos fun q=>h5 gr (by omega) GR;obtain⟨q1,q2⟩:=h1.setRoots (w1:=W) (Frm.refl _ _) EQ (.inr vm) lv;have nz:=h7.cell;have z0:W.cell? ⟨P,0,none⟩=some (.slice (some ⟨A'.ra,0,none⟩) (dY f J).roots.length ((dY f J).roots.length+A'.rj.length)):=by rw[Px.hP.cell];rfl
  have zf:=Px.hP.frozen 0;have VP:D≠P:=by have:=xf.size;omega
  have CF:(W.setCell ⟨P,0,none⟩ (.slice (some ⟨gr,0,none⟩) rs.length (rs.length+rj.length))).heap[D]?=some (.deferred (some [])):=(aZ _ _ VP).trans hK;have CD:Frm (fun k=>ρ k≠0) w (W.setCell ⟨P,0,none⟩ (.slice (some ⟨gr,0,none⟩) rs.length (rs.length+rj.length))):=by
   refine((Frm.of_below xf).next h6 (fun x _ e=>?_)).trans (Frm.set (S:=fun k=>ρ k≠0) W (p:=⟨P,0,none⟩) (by show ρ P≠0;rw[hR.rP];omega) _);rcases e with e | e
   ·rw[e,hR.rc];omega
   ·rw[e,hR.rm];omega
  have HF:=aA (aI q1 (aI CD CF));have lh:=aA (aI jx (aI yn (aI dq cw)));clear q1 q2 CD CF jx yn dq cw aw br OF h2 hJ Ki hS;gi_wp2;obtain⟨q1,CD,CF⟩:=HF.out;obtain⟨jx,yn,dq,cw⟩:=lh.out;generalize W.setCell ⟨P,0,none⟩ (.slice (some ⟨gr,0,none⟩) rs.length (rs.length+rj.length))=W5 at *;have Cx:W5.grownBy (W5.putObj D (.deferred none)) (some D):=grownBy_putObj' W5 D _;refine⟨by simp,.inl ⟨_,_,rfl,run_takeDeferred CF,?_⟩⟩;refine⟨.tuple #[],by simp[results,Tryz.f112,go_sem],⟨rfl,oB ρ' gr,_,q1.own Cx fun x e=>?_,CD.own Cx fun x e=>?_,fun x hx e=>?_⟩⟩
  ·cases e;exact⟨by show D≠A'.m;rw[h4];have:=xf.size;omega,_,CF,rfl⟩
  ·cases e;have:=xf.size;omega
  ·unfold oB at e;rw[if_neg hx]at e;exact h5 x e
end Go.Proofs.YtaahkgkdpnnhhaaGreat
namespace Go.Proofs.YtaahkgkdpnnhhaaGreat
open Go.RowKit Go.Shelf Fo
variable{A:Adr}{K:Int}{P t:Nat}{ρ:Nat→Nat}{w:World}{f:fZ}
attribute [local go_sem] Oper.semAt_some
theorem aFN(a:Int):wrap64 (wrap64 a+1)=wrap64 (a+1):=by
 simp only[wrap64];omega
def fJ(zs ys:List Int):Int:=((frs zs ys zs.length zs.length).length:Int)
theorem wE(F:Fence)(n:Nat)(pa:∀k,F.fn k)(c9:F.round=none)(hn:3≤n)(a a':Option Addr)(c c':Nat)(zs ys:List Int)(hl:ys.length=zs.length)(hz:zs.length≤512)(Ax:8≤zs.length)(w:World)(hv:Nts w (.slice a zs.length c) zs)(np:Nts w (.slice a' ys.length c') ys):
  CallsIn F n Tryz.prog 113 #[.slice a zs.length c,.slice a' ys.length c'] w fun e W'=>e=.returned (.int .i64 (fJ zs ys))∧Bl w W':=by
 have nk:1≤n:=by omega
 have HL:Hid (ys.length=zs.length):=hl;clear hl;refine callsIn_of_wp_marks Tryz.func113 rfl (pa _) ?_ c9;simp only[Tryz.ntmps113,List.size_toArray,List.length_cons,List.length_nil,Nat.reduceAdd,Nat.reduceSub,Array.replicate_succ,Array.replicate_zero,List.push_toArray,List.append_toArray,List.nil_append,List.cons_append];gi_wp2_with (gi_at_call 131;refine(iZ F (n-1) (pa _) c9 _ _ _ ⟨_,_,_,rfl⟩ ⟨_,_,_,rfl⟩).mono ?_;rintro e w' ⟨rfl,rfl⟩);have bR:=Boxed.new w 2 (.int .i64 0);have bS:=Boxed.new (w.alloc (.cells #[.int .i64 0] 2)) 24 (.slice a zs.length c);have bT:=Boxed.new ((w.alloc (.cells #[.int .i64 0] 2)).alloc (.cells #[.slice a zs.length c] 24)) 24 (.slice a' ys.length c');simp only[World.size_alloc]at bS bT;have cw:Bl w (((w.alloc (.cells #[.int .i64 0] 2)).alloc (.cells #[.slice a zs.length c] 24)).alloc (.cells #[.slice a' ys.length c'] 24)):=(((bQ _ w).alloc (nR _) _).alloc (by simp) _).alloc (by simp;omega) _;refine wpIn_rangeFunc_ownF c9 nk (gf:=150) (lb:=#[.pointer (some ⟨w.heap.size+1,0,none⟩),.pointer (some ⟨w.heap.size+1+1,0,none⟩)]) rfl (pa _) (enters_of Tryz.func150 (by kernel_rfl) rfl)
  (mL F (n-1) (pa _) c9 (by omega) (w.heap.size+1) (w.heap.size+1+1) w.heap.size a a' c c' zs ys HL.out hz Ax _ (by simp) (by simp) (by simp;omega) ((bS.alloc _).cell) bT.cell w hv np (by omega) cw) KpF.trans (KpF.put (by simp;omega) (by simp) (by simp)) (bQ _ _) (fun _=>rfl)
  (fun pre W=>(W.cell? ⟨w.heap.size,0,none⟩=some (.int .i64 (wrap64 (pre.length:Int)))∧W.frozen? ⟨w.heap.size,0,none⟩=false)∧Bl w W)
  (fun k pre W=>False∧Bl w W)
  (OwnFrom.and (Own.from (fun s A B row hs hg hr=>⟨cell_kept hs.1 hg hr,(frozen_kept hs.1 hg hr).trans hs.2⟩) _) (ownFrom_below (nR _) (by simp;omega)))
  (fun k=>OwnFrom.and (Own.from (fun s A B row hs hg hr=>hs) _) (ownFrom_below (nR _) (by simp;omega)))
  ⟨⟨by(have e0:wrap64 ((([]:List (Blk zs.length)).length:Nat):Int)=0:=(by simp[wrap64]));rw[e0];exact((bR.alloc _).alloc _).cell,((bR.alloc _).alloc _).frozen⟩,cw⟩
  (fun x=>{tmps:=#[.slice a zs.length c,.slice a' ys.length c',undef,undef,.int .i64 0,.pointer (some ⟨w.heap.size,0,none⟩),.slice a zs.length c,.slice a' ys.length c',.func (.func 150) #[] #[.pointer (some ⟨w.heap.size+1,0,none⟩),.pointer (some ⟨w.heap.size+1+1,0,none⟩)],.int .i64 (x.1:Int),undef,undef,undef],defers:=[]}) ?assign ?body ?done ?stop
 case assign=>
  intro l x W K hK;gi_wp2;simpa using hK
 case body=>
  rintro l pre x W ⟨⟨hc,hf⟩,hB⟩ _;have UG:wrap64 (wrap64 (pre.length:Int)+1)=wrap64 (((pre++[x]).length:Nat):Int):=by rw[aFN];simp
  have HW:=aA UG;clear UG;generalize wrap64 (pre.length:Int)=q at *;gi_wp2;refine⟨KeepsOthers.setCell _ _ _,⟨(bQ _ W).setCell (p:=⟨w.heap.size,0,none⟩) (nR _) _,aZ _ _ (by show w.heap.size+1≠w.heap.size;omega),aZ _ _ (by show w.heap.size+1+1≠w.heap.size;omega)⟩,⟨?_,?_⟩,hB.setCell (p:=⟨w.heap.size,0,none⟩) (nR _) _⟩
  ·rw[World.cell?_setCell_same' _ _ _ (by rw[hc];rfl),HW.out]
  ·rw[World.frozen?_setCell];exact hf
 case done=>
  rintro D xs W hD rfl ⟨⟨hc,hf⟩,hB⟩ hK;have te:wrap64 (((frs zs ys zs.length zs.length).length:Nat):Int)=fJ zs ys:=by
   have:=jV zs ys zs.length zs.length
   unfold fJ;simp only[wrap64];omega
  rw[te]at hc;gi_wp2;refine⟨by simp,.inl ⟨_,_,rfl,run_takeDeferred hK,?_⟩⟩;refine⟨.int .i64 (fJ zs ys),?_,rfl,hB.trans (belowK_b (w:=w) (nR _) W D _ _ (by simp at hD;omega) hK rfl rfl)⟩;simp[results,Tryz.f113,go_sem]
 case stop=>
  rintro D k pre W hD ⟨q,hq,lg⟩ ⟨hx,hB⟩ hK;exact hx.elim
theorem sV(w:World)(ρ:Nat→Nat)(P:Nat)(A:Adr)(f:fZ)(J:List aQ)(gr:Nat)(rs rj:List (Int×Int))(hS:St w ρ P A f J)(ku:J.length≤900000)(Bj:f.cur.length≤512)(ai:∀r∈J,r.1<f.cur.length)(bm:IsC w gr (cS (rs++rj)) 77)(GR:ρ gr=0)(lv:rs.length+rj.length≤maxLen):
  Calls Tryz.prog 112 #[.pointer (some ⟨P,0,none⟩),.slice (some ⟨gr,0,none⟩) rs.length (rs.length+rj.length)] w (RsP w ρ P f J gr rs):=
 (callsIn_wide (n:=5)).1 (aBK Fence.wide 5 (mX.wide _) rfl (nR _) w ρ P A f J gr _ rs rj hS ku Bj ai bm GR rfl lv)
theorem aAL(w:World):(Instr.typeAssert (.iface 169 (.agg #[])) 20 169 true).run Tryz.prog w=.ok (.tuple #[.agg #[],.bool true]) w:=by kernel_rfl
structure CtP(w:World)(ρ:Nat→Nat)(P:Nat)(f:fZ)(J:List aQ)(gr:Nat)(rs:List (Int×Int))(cd:Nat)(w':World):Prop where
 ex:∃ρ' A',St w' ρ' P A' {dY f J with roots:=rs} fN∧Frm (fun k=>ρ k≠0∨k=cd) w w'∧∀x,x≠gr→ρ' x≠0→ρ x≠0
 cd:w'.cell? ⟨cd,0,none⟩=some (.int .i64 7)
theorem aAO(cd fb rb:Nat)(older:List PanicEntry)(w:World)(ρ:Nat→Nat)(P:Nat)(A:Adr)(f:fZ)(J:List aQ)(gr:Nat)(rs rj:List (Int×Int))(hS:St w ρ P A f J)(ku:J.length≤900000)(Bj:f.cur.length≤512)(ai:∀r∈J,r.1<f.cur.length)(bm:IsC w gr (cS (rs++rj)) 77)(GR:ρ gr=0)(lv:rs.length+rj.length≤maxLen)
  (sx:IsC w cd #[.int .i64 0] 2) (td:IsC w fb #[.pointer (some ⟨P,0,none⟩)] 65) (fl:IsC w rb #[.slice (some ⟨gr,0,none⟩) rs.length (rs.length+rj.length)] 55) (h0:ρ cd=0∧ρ fb=0∧ρ rb=0):
  CallsD Tryz.prog 111 #[.pointer (some ⟨cd,0,none⟩),.pointer (some ⟨fb,0,none⟩),.pointer (some ⟨rb,0,none⟩)] (.panicking ({v:=.iface 169 (.agg #[]),recovered:=false} :: older)) w fun e u' w'=>
   e=.returned (.tuple #[])∧u'=.panicking ({v:=.iface 169 (.agg #[]),recovered:=true} :: older)∧CtP w ρ P f J gr rs cd w':=by
 refine callsD_of_wpS Tryz.func111 rfl fun c₀ cs hu=>?_;refine wpS_seq ?_;refine wpS_seq ?_;apply wpS_region;simp[wpOpsS,go_sem,recoverD,hu,Tryz.ntmps111,Exit.thenS];refine wpS_of_wp ?_;simp only[Array.replicate_succ,Array.replicate_zero,List.push_toArray,List.setIfInBounds_toArray,List.set_cons_zero,List.set_cons_succ,List.append_toArray,List.nil_append,List.cons_append];obtain⟨w1,bh⟩:=eZ (w.alloc (.cells #[] 169));have eX:=bAl bh;have JG:=sx.of (eX.block _ sx.lt);have cc:w1.cell? ⟨cd,0,none⟩=some (.int .i64 0):=JG.c rfl;have cz:=JG.frozen 0;have YX:=aAL;obtain⟨w2,ci⟩:=eZ (w1.setCell ⟨cd,0,none⟩ (.int .i64 7));have du:Frm (fun k=>k=cd) w w2:=by rw[←ci];exact(Frm.of_below eX).trans (Frm.set (S:=fun k=>k=cd) w1 (p:=⟨cd,0,none⟩) rfl _)
 have BZ:IsC w2 cd #[.int .i64 7] 2:=by
  have:=JG.set 0 (.int .i64 7)
  rw[ci]at this;exact this
 go_wp2
 refine wpS_of_wp ?_;have ax:St w2 ρ P A f J:=hS.frm (du.wide fun k _ e=>by rw[e];exact h0.1);have Qt:IsC w2 gr (cS (rs++rj)) 77:=bm.frm du (fun e=>IsC.ne (e▸bm) sx (by decide) rfl);have wg:IsC w2 fb #[.pointer (some ⟨P,0,none⟩)] 65:=td.frm du (fun e=>IsC.ne (e▸td) sx (by decide) rfl);have Rg:IsC w2 rb #[.slice (some ⟨gr,0,none⟩) rs.length (rs.length+rj.length)] 55:=fl.frm du (fun e=>IsC.ne (e▸fl) sx (by decide) rfl);have d1:w2.cell? ⟨cd,0,none⟩=some (.int .i64 7):=BZ.c rfl;have d2:w2.cell? ⟨fb,0,none⟩=some (.pointer (some ⟨P,0,none⟩)):=wg.c rfl;have d3:w2.cell? ⟨rb,0,none⟩=some (.slice (some ⟨gr,0,none⟩) rs.length (rs.length+rj.length)):=Rg.c rfl;clear bh ci;go_wp2_with fail;refine(sV w2 ρ P A f J gr rs rj ax ku Bj ai Qt GR lv).mono ?_;rintro e w3 ⟨rfl,ρ3,A3,g1,g2,g3⟩;have JH:IsC w3 cd #[.int .i64 7] 2:=BZ.frm g2 (fun e=>e h0.1);have HC:Hid (CtP w ρ P f J gr rs cd w3):=⟨⟨ρ3,A3,g1,(du.wide fun k _ e=>.inr e).trans (g2.wide fun k _ e=>.inl e),g3⟩,JH.c rfl⟩;clear g1 g2 g3;go_wp2;exact⟨rfl,_,rfl,.tuple #[],by simp[results,Tryz.f111,go_sem],rfl,rfl,HC.out⟩
theorem aAN(cd fb rb:Nat)(w:World)(ρ:Nat→Nat)(P:Nat)(A:Adr)(f:fZ)(J:List aQ)(gr:Nat)(rs rj:List (Int×Int))(hS:St w ρ P A f J)(ku:J.length≤900000)(Bj:f.cur.length≤512)(ai:∀r∈J,r.1<f.cur.length)(bm:IsC w gr (cS (rs++rj)) 77)(GR:ρ gr=0)(lv:rs.length+rj.length≤maxLen)
  (sx:IsC w cd #[.int .i64 7] 2) (td:IsC w fb #[.pointer (some ⟨P,0,none⟩)] 65) (fl:IsC w rb #[.slice (some ⟨gr,0,none⟩) rs.length (rs.length+rj.length)] 55) (h0:ρ cd=0∧ρ fb=0∧ρ rb=0):
  CallsD Tryz.prog 111 #[.pointer (some ⟨cd,0,none⟩),.pointer (some ⟨fb,0,none⟩),.pointer (some ⟨rb,0,none⟩)] .returning w fun e u' w'=>
   e=.returned (.tuple #[])∧u'=.returning∧CtP w ρ P f J gr rs cd w':=by
 refine callsD_of_wpS Tryz.func111 rfl fun c₀ cs hu=>?_;refine wpS_seq ?_;refine wpS_seq ?_;apply wpS_region;simp[wpOpsS,go_sem,recoverD,hu,Tryz.ntmps111,Exit.thenS];refine wpS_of_wp ?_;simp only[Array.replicate_succ,Array.replicate_zero,List.push_toArray,List.setIfInBounds_toArray,List.set_cons_zero,List.set_cons_succ,List.append_toArray,List.nil_append,List.cons_append];have d1:w.cell? ⟨cd,0,none⟩=some (.int .i64 7):=sx.c rfl;have d2:w.cell? ⟨fb,0,none⟩=some (.pointer (some ⟨P,0,none⟩)):=td.c rfl;have d3:w.cell? ⟨rb,0,none⟩=some (.slice (some ⟨gr,0,none⟩) rs.length (rs.length+rj.length)):=fl.c rfl;go_wp2;refine wpS_of_wp ?_;go_wp2_with fail;refine(sV w ρ P A f J gr rs rj hS ku Bj ai bm GR lv).mono ?_;rintro e w3 ⟨rfl,ρ3,A3,g1,g2,g3⟩;have JH:IsC w3 cd #[.int .i64 7] 2:=sx.frm g2 (fun e=>e h0.1);have HC:Hid (CtP w ρ P f J gr rs cd w3):=⟨⟨ρ3,A3,g1,g2.wide fun k _ e=>.inl e,g3⟩,JH.c rfl⟩;clear g1 g2 g3;go_wp2;exact⟨rfl,_,by cases c₀;simp_all,.tuple #[],by simp[results,Tryz.f111,go_sem],rfl,rfl,HC.out⟩
theorem aGD(cd fb rb:Nat)(w:World)(sx:IsC w cd #[.int .i64 0] 2):
  CallsD Tryz.prog 111 #[.pointer (some ⟨cd,0,none⟩),.pointer (some ⟨fb,0,none⟩),.pointer (some ⟨rb,0,none⟩)] .returning w fun e u' w'=>
   e=.returned (.tuple #[])∧u'=.returning∧w'=w:=by
 refine callsD_of_wpS Tryz.func111 rfl fun c₀ cs hu=>?_;refine wpS_seq ?_;refine wpS_seq ?_;apply wpS_region;simp[wpOpsS,go_sem,recoverD,hu,Tryz.ntmps111,Exit.thenS];refine wpS_of_wp ?_;simp only[Array.replicate_succ,Array.replicate_zero,List.push_toArray,List.setIfInBounds_toArray,List.set_cons_zero,List.set_cons_succ,List.append_toArray,List.nil_append,List.cons_append];have d1:w.cell? ⟨cd,0,none⟩=some (.int .i64 0):=sx.c rfl;go_wp2;refine wpS_of_wp ?_;go_wp2;exact⟨rfl,_,by cases c₀;simp_all,.tuple #[],by simp[results,Tryz.f111,go_sem],rfl,rfl,rfl⟩
structure Mx(X:Nat→Prop)(w:World)(ρ:Nat→Nat)(w':World)(ρ':Nat→Nat):Prop where
 frm:Frm (fun k=>ρ k≠0∨X k) w w'
 rol:∀x,x<w.heap.size→ρ' x=ρ x
structure ChP(k:Nat)(X:Nat→Prop)(L:Int)(T:fZ→(Nat→Option Obj)→Prop)(w:World)(ρ:Nat→Nat)(P:Nat)(f:fZ)(r:Option fZ)(e:Ending)(w':World):Prop where
 no:r=none→e=aBH∧∃ρ' A' g J',St w' ρ' P A' g J'∧Mx X w ρ w' ρ'∧JS k f [] g J'
 yes:∀g,r=some g→e=.returned (.tuple #[])∧∃ρ' A' J',St w' ρ' P A' g J'∧Mx X w ρ w' ρ'∧JS k f [] g J'∧Sz L g∧T g (fun x=>w'.heap[x]?)
def iY(f:fZ)(r:Option fZ):fZ×Int:=match r with
 | none=>(f,7)
 | some g=>if fJ g.cur g.com<2*fK g.cur.length then(f,7)else(g,0)
structure AtP(X:Nat→Prop)(T:fZ→(Nat→Option Obj)→Prop)(w:World)(ρ:Nat→Nat)(P:Nat)(f:fZ)(r:Option fZ)(e:Ending)(w':World):Prop where
 e:e=.returned (.int .i64 (iY f r).2)
 ex:∃ρ' A' J',St w' ρ' P A' (iY f r).1 J'∧Frm (fun k=>ρ k≠0∨X k) w w'∧∀x,x<w.heap.size→ρ x=0→ρ' x=0
 t:(iY f r).2=0→T (iY f r).1 (fun x=>w'.heap[x]?)
theorem St.nilJ{J:List aQ}(h:St w ρ P A f J):St (w.setCell ⟨P,7,none⟩ (.slice none 0 0)) ρ P A f []:=by
 obtain⟨ja,jp,jj,hR,_⟩:=h;have k:Frm (fun x=>x=P) w (w.setCell ⟨P,7,none⟩ (.slice none 0 0)):=Frm.set (S:=fun x=>x=P) w (p:=⟨P,7,none⟩) rfl _;have no:∀{x r},ρ x=r→r≠1→¬x=P:=fun {x r} e hr q=>hr (by rw[←e,q,hR.rP]);refine⟨none,[],[],hR.gen (Kp.same hR k) (.inr ?_) (.inl ⟨no hR.rr (by omega),rfl,rfl⟩) (.inl ⟨no hR.rm (by omega),rfl⟩) rfl (.inl ⟨no hR.rc (by omega),rfl⟩) rfl (.inl ⟨no hR.rd (by omega),rfl,rfl⟩) (fun x d hx=>.inl ⟨hx,rfl,rfl,fun y hy=>?_⟩) hR.no hR.rs hR.ds,fun _=>JrL.start _ _⟩
 ·have:=hR.hP.set 7 (.slice none 0 0)
  simpa [dC,aGZ,adr] using this
 ·rcases hy with e | e
  ·exact no e (by unfold cE;omega)
  ·exact no e (by unfold cB;omega)
theorem qU{L:Int}(k:Nat)(X:Nat→Prop)(T:fZ→(Nat→Option Obj)→Prop)(cf:Nat)(lb:Array Value)(w:World)(ρ:Nat→Nat)(P:Nat)(A:Adr)(f:fZ)(J0:List aQ)(r:Option fZ)(h:St w ρ P A f J0)(hz:Sz K f)(hL:L≤1000000)(hk:k≤500000)(av:0<f.roots.length)(jr:f.roots.length≤16)
  (hX:∀x,X x→x<w.heap.size∧ρ x=0) (hT:∀g (h h':Nat→Option Obj),(∀x,x<w.heap.size→h x=h' x)→T g h→T g h')
  (eg:∀args w,(callFunc cf args).run Tryz.prog w=.ok (.enter cf args) w)
  (As:∀W,Frm (fun x=>x=P) w W→St W ρ P A f []→Calls Tryz.prog cf lb W (ChP k X L T W ρ P f r)):
  Calls Tryz.prog 97 #[.pointer (some ⟨P,0,none⟩),.func (.func cf) #[] lb] w (AtP X T w ρ P f r):=by
 have Kz:∀(fn:Fn) (first cap:Array Value) (w:World),(Instr.makeFunc fn first cap).run Tryz.prog w=.ok (.func fn first cap) w:=fun _ _ _ _=>rfl;obtain⟨fb,td⟩:=eZ (w.heap.size);obtain⟨w1,bh⟩:=eZ (w.alloc (.cells #[.pointer (some ⟨P,0,none⟩)] 65));obtain⟨cd,sx⟩:=eZ (w1.heap.size);obtain⟨w2,ci⟩:=eZ (w1.alloc (.cells #[.int .i64 0] 2));have eX:=bAl bh;have db:=bAl ci;have jx:w1.heap.size=w.heap.size+1:=by rw[←bh];simp
 have ti:w2.heap.size=w1.heap.size+1:=by rw[←ci];simp
 have Ja:=iNw bh td;have wg:=Ja.of (db.block _ Ja.lt);have BZ:=iNw ci sx;have vt:Bl w w2:=eX.trans (db.mono (by omega));have ax:=h.below vt;obtain⟨_,_,_,gi,_⟩:=id ax;have k1:w2.cell? ⟨fb,0,none⟩=some (.pointer (some ⟨P,0,none⟩)):=wg.c rfl;have k2:w2.cell? ⟨P,0,none⟩=some (.slice (some ⟨A.ra,0,none⟩) f.roots.length (f.roots.length+A.rj.length)):=by rw[gi.hP.cell];rfl
 have TU:Tsl w2 (.slice (some ⟨A.ra,0,none⟩) f.roots.length (f.roots.length+A.rj.length)) f.roots:=.inr ⟨A.ra,0,f.roots.length+A.rj.length,f.roots++A.rj,by simp,gi.hr,by simp,by simp⟩;have lh:=aA (aI jx ti);clear jx ti;go_enter_defers Tryz.func97,Tryz.ntmps97;go_wp2_with fail;refine(aAQ _ f.roots w2 TU (by omega)).mono ?_;rintro e w3 ⟨v',rfl,⟨ag,rj,rfl,iv,oa,CT⟩,fk⟩;obtain⟨gr,rfl⟩:∃gr,ag=some gr:=by
  cases ag with
  | none=>have:=(oa rfl).1;rw[this]at av;simp at av
  | some g=>exact⟨g,rfl⟩
 obtain⟨Bf,Jh⟩:=iv gr rfl;simp only[adr,Option.map_some];obtain⟨rb,fl⟩:=eZ (w3.heap.size);obtain⟨w4,cn⟩:=eZ (w3.alloc (.cells #[.slice (some ⟨gr,0,none⟩) f.roots.length (f.roots.length+rj.length)] 55));have dq:=bAl cn;have IJ:Bl w w4:=(vt.trans (fk.mono vt.size)).trans (dq.mono (lT vt.size fk.size));have aw:=h.below IJ;obtain⟨_,_,_,lj,_⟩:=id aw;have k3:w4.cell? ⟨fb,0,none⟩=some (.pointer (some ⟨P,0,none⟩)):=by
  rw[((wg.of (fk.block _ wg.lt)).of (dq.block _ (lL wg.lt fk.size)):IsC w4 fb _ _).cell];rfl
 have k4:∃v,w4.cell? ⟨P,7,none⟩=some v:=⟨_,by rw[lj.hP.cell];rfl⟩;obtain⟨v7,k4⟩:=k4;have k5:=lj.hP.frozen 7;obtain⟨w5,sf⟩:=eZ (w4.setCell ⟨P,7,none⟩ (.slice none 0 0));have cq:=aw.nilJ;rw[sf]at cq;have er:Frm (fun x=>x=P) w w5:=by rw[←sf];exact(Frm.of_below IJ).trans (Frm.set (S:=fun x=>x=P) w4 (p:=⟨P,7,none⟩) rfl _)
 have QS:=As w5 er cq;have DL:P<w.heap.size:=by obtain⟨_,_,_,q,_⟩:=id h;exact q.own P (by rw[q.rP];omega)
 have ρ0:∀x,w.heap.size≤x→ρ x=0:=fun x hx=>Decidable.byContradiction fun q=>by
  obtain⟨_,_,_,q',_⟩:=id h;exact absurd (q'.own x q) (by omega)
 have G:w.heap.size≤fb∧w.heap.size≤cd∧w.heap.size≤gr∧w.heap.size≤rb:=by
  have:=lh.out.1;have:=lh.out.2;have:=fk.size;omega
 have Di:Frm (fun x=>x=P) w4 w5:=by rw[←sf];exact Frm.set (S:=fun x=>x=P) w4 (p:=⟨P,7,none⟩) rfl _
 have Jc:IsC w5 fb #[.pointer (some ⟨P,0,none⟩)] 65:=(((wg.of (fk.block _ wg.lt)).of (dq.block _ (lL wg.lt fk.size)):IsC w4 fb _ _).frm Di (by omega));have JJ:IsC w5 cd #[.int .i64 0] 2:=(((BZ.of (fk.block _ BZ.lt)).of (dq.block _ (lL BZ.lt fk.size)):IsC w4 cd _ _).frm Di (by omega));have Cx:IsC w5 gr (cS (f.roots++rj)) 77:=((Jh.of (dq.block _ Jh.lt):IsC w4 gr _ _).frm Di (by omega));have KG:IsC w5 rb #[.slice (some ⟨gr,0,none⟩) f.roots.length (f.roots.length+rj.length)] 55:=by
  have:IsC w4 rb #[.slice (some ⟨gr,0,none⟩) f.roots.length (f.roots.length+rj.length)] 55:=by rw[←cn,←fl];exact IsC.new _ _ _
  exact this.frm Di (by omega)
 have keep:∀(w6:World) (ρ6:Nat→Nat),Mx X w5 ρ w6 ρ6→IsC w6 fb #[.pointer (some ⟨P,0,none⟩)] 65∧IsC w6 cd #[.int .i64 0] 2∧IsC w6 gr (cS (f.roots++rj)) 77∧IsC w6 rb #[.slice (some ⟨gr,0,none⟩) f.roots.length (f.roots.length+rj.length)] 55∧ρ6 fb=0∧ρ6 cd=0∧ρ6 gr=0∧ρ6 rb=0:=fun w6 ρ6 m=>by
  have no:∀x,w.heap.size≤x→¬(ρ x≠0∨X x):=fun x hx q=>q.elim (fun q=>q (ρ0 x hx)) (fun q=>absurd (hX x q).1 (by omega));exact⟨Jc.frm m.frm (no _ G.1),JJ.frm m.frm (no _ G.2.1),Cx.frm m.frm (no _ G.2.2.1),KG.frm m.frm (no _ G.2.2.2),by rw[m.rol _ Jc.lt,ρ0 _ G.1],by rw[m.rol _ JJ.lt,ρ0 _ G.2.1],by rw[m.rol _ Cx.lt,ρ0 _ G.2.2.1],by rw[m.rol _ KG.lt,ρ0 _ G.2.2.2]⟩
 have LI:w.heap.size≤w5.heap.size:=er.size;have undo:∀(w6 w7:World) (ρ6:Nat→Nat) (g:fZ) (J':List aQ),Mx X w5 ρ w6 ρ6→JS k f [] g J'→CtP w6 ρ6 P g J' gr f.roots cd w7→∃ρ' A' J',St w7 ρ' P A' f J'∧Frm (fun k=>ρ k≠0∨X k) w w7∧∀x,x<w.heap.size→ρ x=0→ρ' x=0:=fun w6 w7 ρ6 g J' m j c=>by
  obtain⟨⟨ρ7,A7,c1,c2,c3⟩,_⟩:=c;rw[JI.restored (j.ji f (JI.start f))]at c1;refine⟨ρ7,A7,_,c1,?_,fun x hx h0=>Decidable.byContradiction fun q=>?_⟩
  ·refine((er.wide (S':=fun k=>ρ k≠0∨X k) fun x _ e=>.inl (by rw[e];obtain⟨_,_,_,q,_⟩:=id h;rw[q.rP];omega)).next m.frm fun x _ q=>q).next c2 fun x hx q=>?_
   rcases q with q | q
   ·exact .inl (by rwa [m.rol x (by omega)]at q)
   ·exact absurd q (by omega)
  ·exact c3 x (by omega) q (by rw[m.rol x (by omega),h0])
 have HK:=aA keep;have HU:=aA undo;clear keep undo Jc JJ Cx KG;go_wp2_with fail;clear Di ax gi aw lj cq k1 k2 k3 k4 k5 bh ci cn sf eX db Ja wg BZ vt TU fk iv oa Jh dq IJ As lh;refine QS.mono ?_;rintro e w6 hC;cases r with
 | none=>
  obtain⟨rfl,ρ6,A6,g,J6,s6,m6,j6⟩:=hC.no rfl;obtain⟨b1,b2,b3,b4,z1,z2,z3,z4⟩:=HK.out _ _ m6;have dm:=j6.ji f (JI.start f);have ah:J6.length≤k:=by have:=j6.len;simpa using this
  refine leaves_cons (f:=111) (args:=#[.pointer (some ⟨cd,0,none⟩),.pointer (some ⟨fb,0,none⟩),.pointer (some ⟨rb,0,none⟩)]) (by simp) (by simp[go_sem]) ?_;refine(aAO cd fb rb [] w6 ρ6 P A6 g J6 gr f.roots rj s6 (by omega) (by rw[dm.len];exact hz.n512) (fun r hr=>by rw[dm.len];exact dm.lt r hr) b3 z3 CT b2 b1 b4 ⟨z2,z1,z4⟩).mono ?_;rintro e u' w7 ⟨rfl,rfl,Sv⟩;have kz:=Sv.cd;simp[Leaves,settle,results,Tryz.results97,go_sem,kz];exact⟨rfl,HU.out _ _ _ _ _ m6 j6 Sv,fun q=>by simp[iY]at q⟩
 | some g=>
  obtain⟨rfl,ρ6,A6,J6,s6,m6,j6,z6,t6⟩:=hC.yes g rfl;obtain⟨b1,b2,b3,b4,z1,z2,z3,z4⟩:=HK.out _ _ m6;have dm:=j6.ji f (JI.start f);have ah:J6.length≤k:=by have:=j6.len;simpa using this
  obtain⟨_,_,_,DM,_⟩:=id s6;have n1:Nts w6 (.slice (some ⟨A6.c,0,none⟩) g.cur.length g.cur.length) g.cur:=by
   have:=lS (ys:=[]) (zs:=g.cur) (by simpa using DM.hc) fun i=>⟨(z6.cb i).1,Int.le_trans (z6.cb i).2 (by omega)⟩
   simpa using this
  have n2:Nts w6 (.slice (some ⟨A6.d,0,none⟩) g.com.length (g.com.length+A6.dj.length)) g.com:=xA DM.hd fun i=>⟨(z6.mb i).1,Int.le_trans (z6.mb i).2 (by omega)⟩;have k1:w6.cell? ⟨fb,0,none⟩=some (.pointer (some ⟨P,0,none⟩)):=b1.c rfl;have k2:w6.cell? ⟨P,4,none⟩=some (.slice (some ⟨A6.c,0,none⟩) g.cur.length g.cur.length):=by rw[DM.hP.cell];rfl
  have k3:w6.cell? ⟨P,5,none⟩=some (.slice (some ⟨A6.d,0,none⟩) g.com.length (g.com.length+A6.dj.length)):=by rw[DM.hP.cell];rfl
  have CW:Calls Tryz.prog 113 #[.slice (some ⟨A6.c,0,none⟩) g.cur.length g.cur.length,.slice (some ⟨A6.d,0,none⟩) g.com.length (g.com.length+A6.dj.length)] w6.drew fun e W'=>e=.returned (.int .i64 (fJ g.cur g.com))∧Bl w6 W':=by
   refine((callsIn_wide (n:=3)).1 (wE Fence.wide 3 (fun _=>trivial) rfl (nR _) _ _ _ _ g.cur g.com z6.com z6.n512 z6.n8 w6.drew (n1.below (bQ _ _).drew) (n2.below (bQ _ _).drew))).mono ?_;rintro e w' ⟨h1,h2⟩;exact⟨h1,(bQ _ w6).drew.trans h2⟩
  have HC:=aA CW;have HB:=aA (fun w' (hb:Bl w6 w')=>aI ((hb.cell (p:=⟨fb,0,none⟩) b1.lt).trans k1) (aI ((hb.cell (p:=⟨P,4,none⟩) DM.hP.lt).trans k2) ((hb.cell (p:=⟨P,5,none⟩) DM.hP.lt).trans k3)));go_wp2_with fail;go_region_held3 (fun w'=>w'.cell? ⟨fb,0,none⟩=some (.pointer (some ⟨P,0,none⟩))∧w'.cell? ⟨P,4,none⟩=some (.slice (some ⟨A6.c,0,none⟩) g.cur.length g.cur.length)∧w'.cell? ⟨P,5,none⟩=some (.slice (some ⟨A6.d,0,none⟩) g.com.length (g.com.length+A6.dj.length))) (first | assumption | go_keep)
   ((first
    | (go_at_call 113;refine HC.out.mono ?_;rintro e w7 ⟨rfl,vi⟩;have nm:=HB.out _ vi)
    | (go_at_call 114;refine(qB _ _).mono ?_;rintro e w8 ⟨rfl,rfl⟩)))
  clear nm;obtain⟨rv,NI⟩:=eZ (fK (g.cur.length:Int));have XE:0≤rv∧rv≤30:=by have:=z6.n512;rw[←NI];unfold fK;split<;>omega
  have wt:IntKind.i64.wrap (2*rv)=2*rv:=IntWalk.i64_in _ ⟨by omega,by omega⟩;obtain⟨fc,sn⟩:=eZ (fJ g.cur g.com);rw[NI,sn,wt];have Se:=aA NI;have SW:=aA sn;have s7:=s6.below vi;have b17:=b1.of (vi.block _ b1.lt);have b27:=b2.of (vi.block _ b2.lt);have b37:IsC w7 gr (cS (f.roots++rj)) 77:=b3.of (vi.block _ b3.lt);have b47:=b4.of (vi.block _ b4.lt);have cc:w7.cell? ⟨cd,0,none⟩=some (.int .i64 0):=b27.c rfl;have cz:=b27.frozen 0;clear NI sn wt HC HB n1 n2 k1 k2 k3;by_cases ai:fc<2*rv
  ·obtain⟨w8,GO⟩:=eZ (w7.setCell ⟨cd,0,none⟩ (.int .i64 7))
   have y7:Frm (fun x=>x=cd) w7 w8:=by rw[←GO];exact Frm.set (S:=fun x=>x=cd) w7 (p:=⟨cd,0,none⟩) rfl _
   have b28:IsC w8 cd #[.int .i64 7] 2:=by
    have:=b27.set 0 (.int .i64 7)
    rw[GO]at this;exact this
   have b18:=b17.frm y7 (fun e=>IsC.ne (e▸b17) b27 (by decide) rfl);have b38:=b37.frm y7 (fun e=>IsC.ne (e▸b37) b27 (by decide) rfl);have b48:=b47.frm y7 (fun e=>IsC.ne (e▸b47) b27 (by decide) rfl);have s8:St w8 ρ6 P A6 g J6:=s7.frm (y7.wide fun x _ e=>by rw[e];exact z2);go_wp2;refine leaves_cons (f:=111) (args:=#[.pointer (some ⟨cd,0,none⟩),.pointer (some ⟨fb,0,none⟩),.pointer (some ⟨rb,0,none⟩)]) (by simp) (by simp[go_sem]) ?_;refine(aAN cd fb rb w8 ρ6 P A6 g J6 gr f.roots rj s8 (by omega) (by rw[dm.len];exact hz.n512) (fun r hr=>by rw[dm.len];exact dm.lt r hr) b38 z3 CT b28 b18 b48 ⟨z2,z1,z4⟩).mono ?_;rintro e u' w9 ⟨rfl,rfl,Sw⟩;have kz:=Sw.cd;have BR:iY f (some g)=(f,7):=by show(if fJ g.cur g.com<2*fK g.cur.length then(f,(7:Int))else(g,0))=_;rw[SW.out,Se.out,if_pos ai]
   have VK:CtP w6 ρ6 P g J6 gr f.roots cd w9:=by
    obtain⟨⟨ρ9,A9,c1,c2,c3⟩,c4⟩:=Sw;exact⟨⟨ρ9,A9,c1,((Frm.of_below vi).trans (y7.wide fun x _ e=>.inr e)).trans c2,c3⟩,c4⟩
   simp[Leaves,settle,results,Tryz.results97,go_sem,kz]
   exact⟨by rw[BR],by rw[BR];exact HU.out _ _ _ _ _ m6 j6 VK,fun q=>by simp[BR]at q⟩
  ·obtain⟨w8,GO⟩:=eZ (w7.setCell ⟨cd,0,none⟩ (.int .i64 0))
   have y7:Frm (fun x=>x=cd) w7 w8:=by rw[←GO];exact Frm.set (S:=fun x=>x=cd) w7 (p:=⟨cd,0,none⟩) rfl _
   have b28:IsC w8 cd #[.int .i64 0] 2:=by
    have:=b27.set 0 (.int .i64 0)
    rw[GO]at this;exact this
   have s8:St w8 ρ6 P A6 g J6:=s7.frm (y7.wide fun x _ e=>by rw[e];exact z2);go_wp2;refine leaves_cons (f:=111) (args:=#[.pointer (some ⟨cd,0,none⟩),.pointer (some ⟨fb,0,none⟩),.pointer (some ⟨rb,0,none⟩)]) (by simp) (by simp[go_sem]) ?_;refine(aGD cd fb rb w8 b28).mono ?_;rintro e u' w9 ⟨rfl,rfl,Hk⟩;subst Hk;have kz:w9.cell? ⟨cd,0,none⟩=some (.int .i64 0):=b28.c rfl;have BR:iY f (some g)=(g,0):=by show(if fJ g.cur g.com<2*fK g.cur.length then(f,(7:Int))else(g,0))=_;rw[SW.out,Se.out,if_neg (by omega)]
   have XL:w.heap.size≤w6.heap.size:=lT LI m6.frm.size;have Lv:Frm (fun x=>x=cd) w6 w9:=(Frm.of_below vi).trans y7;simp[Leaves,settle,results,Tryz.results97,go_sem,kz];refine⟨by rw[BR],?_,fun _=>?_⟩
   ·rw[BR]
    refine⟨ρ6,A6,J6,s8,?_,fun x hx h0=>by rw[m6.rol x (by omega),h0]⟩;refine((er.wide (S':=fun k=>ρ k≠0∨X k) fun x _ e=>.inl (by rw[e];obtain⟨_,_,_,q,_⟩:=id h;rw[q.rP];omega)).next m6.frm fun x _ q=>q).next Lv fun x hx q=>absurd q (by omega)
   ·rw[BR]
    exact hT g _ _ (fun x hx=>(Lv.block x (by omega) (by omega)).symm) t6
theorem Fo.Inv.sz(h:Inv f):Sz 2576 f:=
 ⟨h.ic.n512,h.ic.n8,h.ic.len,fun b d hd=>by have:=h.ent hd;omega,fun b d hd=>h.ic.lt hd,h.counts,fun i=>⟨(h.cmr i).1,by have:=(h.cmr i).2;omega⟩⟩
def aLJ(f:fZ)(t H:Nat)(key val:ByteArray)(tb:Nat)(g:fZ)(h:Nat→Option Obj):Prop:=∃th,put f t H key val=some (g,th)∧h tb=some (.cells #[.bool th] 4 (0,0))
theorem put_ok'{H:Nat}{key val:ByteArray}(w:Wk f t H)(hr:cD f t H){g:fZ}{th:Bool}(hs:put f t H key val=some (g,th)):∃H',Wk g t H'∧cD g t H'∧g.roots.length=f.roots.length:=by
 obtain⟨H',h1,h2,h3⟩:=aBJ w hr hs;exact⟨H',h1,h2,h3.len⟩
theorem aDY(w:World)(ρ:Nat→Nat)(P:Nat)(A:Adr)(f:fZ)(t H:Nat)(key val:ByteArray)(pb ab ib tb:Nat)(b0:Bool)(hS:St w ρ P A f [])(hW:Wk f t H)(ez:cD f t H)(hz:Sz K f)(sw:1≤K)(hK:K+10*(H+3)≤700000)(ku:13*(H+3)≤600000)
  (qt:IsC w pb #[.pointer (some ⟨P,0,none⟩)] 65) (pn:IsC w ab #[.int .i64 t] 3) (OT:IsC w ib #[.string key,.string val] 85) (OZ:IsC w tb #[.bool b0] 4) (h0:ρ pb=0∧ρ ab=0∧ρ ib=0∧ρ tb=0) (jr:f.roots.length≤16):
  Calls Tryz.prog 98 #[.pointer (some ⟨pb,0,none⟩),.pointer (some ⟨ab,0,none⟩),.pointer (some ⟨ib,0,none⟩),.pointer (some ⟨tb,0,none⟩)] w
   (ChP (13*(H+3)) (fun x=>x=tb) (K+10*(H+3)) (aLJ f t H key val tb) w ρ P f ((put f t H key val).map Prod.fst)):=by
 obtain⟨_,_,_,hR,_⟩:=id hS;have fy:t<f.roots.length:=hW.tl;obtain⟨rl,qu⟩:=eZ (f.roots.length);have Rx:((t:Nat):Int) <(rl:Int):=by omega
 have mk:∀(W:World) (ρ':Nat→Nat) (A':Adr) (g:fZ),IsC W pb #[.pointer (some ⟨P,0,none⟩)] 65→IsC W ab #[.int .i64 t] 3→IsC W ib #[.string key,.string val] 85→(∃jv,Rp W ρ' P A' g jv)→A'.ra=A.ra→A'.rj=A.rj→g.roots.length=f.roots.length→W.cell? ⟨pb,0,none⟩=some (.pointer (some ⟨P,0,none⟩))∧W.cell? ⟨P,0,none⟩=some (.slice (some ⟨A.ra,0,none⟩) rl (rl+A.rj.length))∧W.cell? ⟨ab,0,none⟩=some (.int .i64 t)∧W.cell? ⟨ib,0,none⟩=some (.string key)∧W.cell? ⟨ib,1,none⟩=some (.string val):=fun W ρ' A' g a1 a2 a3 a4 a5 a6 a7=>by
  obtain⟨jv,a4⟩:=a4;refine⟨a1.c rfl,?_,a2.c rfl,a3.c rfl,a3.c rfl⟩;rw[a4.hP.cell];simp[dC,a5,a6,a7,qu]
 have HM:=aA mk;have am:w.drew.cell? ⟨pb,0,none⟩=some (.pointer (some ⟨P,0,none⟩))∧w.drew.cell? ⟨P,0,none⟩=some (.slice (some ⟨A.ra,0,none⟩) rl (rl+A.rj.length))∧w.drew.cell? ⟨ab,0,none⟩=some (.int .i64 t)∧w.drew.cell? ⟨ib,0,none⟩=some (.string key)∧w.drew.cell? ⟨ib,1,none⟩=some (.string val):=mk w ρ A f qt pn OT ⟨_,hR⟩ rfl rfl rfl;clear mk;go_enter Tryz.func98,Tryz.ntmps98;go_wp2_with fail;refine bA (fun W=>W.cell? ⟨pb,0,none⟩=some (.pointer (some ⟨P,0,none⟩))∧W.cell? ⟨P,0,none⟩=some (.slice (some ⟨A.ra,0,none⟩) rl (rl+A.rj.length))∧W.cell? ⟨ab,0,none⟩=some (.int .i64 t)∧W.cell? ⟨ib,0,none⟩=some (.string key)∧W.cell? ⟨ib,1,none⟩=some (.string val)) 10 (by kernel_rfl) ?_;refine tJ 0 4 (.pointer (some ⟨P,0,none⟩)) rfl am ?_;simp only[Act.put,sB,sZ,sS];refine tJ 1 5 (.pointer (some ⟨P,0,none⟩)) rfl am ?_;simp only[Act.put,sB,sZ,sS];refine tJ 2 6 (.pointer (some ⟨P,0,none⟩)) rfl am ?_;simp only[Act.put,sB,sZ,sS];refine tJ 3 7 (.pointer (some ⟨P,0,none⟩)) rfl am ?_;simp only[Act.put,sB,sZ,sS];refine tJ 4 8 (.slice (some ⟨A.ra,0,none⟩) rl (rl+A.rj.length)) rfl am ?_;simp only[Act.put,sB,sZ,sS];refine tJ 5 9 (.int .i64 t) rfl am ?_;simp only[Act.put,sB,sZ,sS];refine tJ 6 10 (.pointer (some ⟨A.ra,t*2,none⟩)) rfl am ?_;simp only[Act.put,sB,sZ,sS];refine tJ 7 11 (.pointer (some ⟨A.ra,t*2+1,none⟩)) rfl am ?_;simp only[Act.put,sB,sZ,sS];refine tJ 8 12 (.agg #[.string key,.string val]) rfl am ?_;simp only[Act.put,sB,sZ,sS];refine oE 9 rfl fun K2 ae=>?_;go_simp;have tr:Bl w w.drew:=(bQ _ _).drew;refine(aLZ (K:=K) w.drew ρ P A f [] t H key val (hS.below tr) hW hz sw hK (by simpa using ku)).mono ?_;intro e w6 Ib;cases bz:put f t H key val with
 | none=>
  obtain⟨rfl,ρ6,A6,g,J6,s6,m6,j6⟩:=Ib.no bz;refine⟨rfl,fun _=>⟨rfl,ρ6,A6,g,J6,s6,⟨(Frm.drew _ w).trans (m6.frm.wide fun x _ q=>.inl (q.resolve_right id)),fun x hx=>m6.rol x hx id⟩,j6⟩,fun g h=>by rw[bz]at h;cases h⟩
 | some gt=>
  obtain⟨g,th⟩:=gt;obtain⟨ρ6,A6,J6,rfl,d6,z6⟩:=Ib.yes g th bz;have m6:=d6.mv;have keep:∀{x:Nat} {cs:Array Value} {ty:TypeId},IsC w x cs ty→ρ x=0→IsC w6 x cs ty:=fun {x cs ty} hx h0=>(IsC.drew hx).frm m6.frm fun q=>q.elim (fun q=>q h0) id;have KR:=keep OZ h0.2.2.2;obtain⟨_,_,_,DM,_⟩:=id d6.st;obtain⟨H',-,-,lv⟩:=put_ok' hW ez bz;have AY:=HM.out w6 ρ6 A6 g (keep qt h0.1) (keep pn h0.2.1) (keep OT h0.2.2.1) ⟨_,DM⟩ d6.ad.ra d6.ad.rj lv;have ct:w6.cell? ⟨tb,0,none⟩=some (.bool b0):=KR.c rfl;have cz:=KR.frozen 0;have XB:ρ6 tb=0:=by rw[m6.rol tb OZ.lt id];exact h0.2.2.2
  obtain⟨w7,UF⟩:=eZ (w6.setCell ⟨tb,0,none⟩ (.bool th));have Ak:Frm (fun x=>x=tb) w6 w7:=by rw[←UF];exact Frm.set (S:=fun x=>x=tb) w6 (p:=⟨tb,0,none⟩) rfl _
  have NT:IsC w7 tb #[.bool th] 4:=by
   have:=KR.set 0 (.bool th)
   rw[UF]at this;exact this
  have s7:St w7 ρ6 P A6 g J6:=d6.st.frm (Ak.wide fun x _ e=>by rw[e];exact XB);have HR:Hid (ChP (13*(H+3)) (fun x=>x=tb) (K+10*(H+3)) (aLJ f t H key val tb) w ρ P f (some g) (.returned (.tuple #[])) w7):=by
   refine⟨fun q=>(by cases q),fun g' q=>?_⟩;cases q;refine⟨rfl,ρ6,A6,J6,s7,⟨?_,fun x hx=>m6.rol x hx id⟩,d6.js,z6,th,bz,NT⟩;exact((Frm.drew _ w).trans (m6.frm.wide fun x _ q=>.inl (q.resolve_right id))).next Ak fun x _ q=>.inr q
  clear s7 NT d6 z6 Ib;refine ae _ _ (fun _=>AY) ?_;clear ae K2;refine oE 10 rfl fun K2 ae=>?_;go_simp;refine ae _ _ (fun q=>absurd rfl q) ?_;clear ae K2;refine aW (by kernel_rfl) ?_ _;go_wp2;first | go_end0 | refine bodyPost_ret (results_none rfl _ _ _) rfl ?_
  rw[bz];exact HR.out
theorem wI(w:World)(ρ:Nat→Nat)(P:Nat)(A:Adr)(f:fZ)(t H:Nat)(key:ByteArray)(pb ab kb:Nat)(hS:St w ρ P A f [])(hW:Wk f t H)(ez:cD f t H)(jw:Mem f.nodes H (aB f t) key)(hz:Sz K f)(sw:1≤K)(hK:K+20*(H+3)≤600000)(ku:25*(H+3)≤500000)
  (qt:IsC w pb #[.pointer (some ⟨P,0,none⟩)] 65) (pn:IsC w ab #[.int .i64 t] 3) (yh:IsC w kb #[.string key] 9) (jr:f.roots.length≤16):
  Calls Tryz.prog 101 #[.pointer (some ⟨pb,0,none⟩),.pointer (some ⟨ab,0,none⟩),.pointer (some ⟨kb,0,none⟩)] w
   (ChP (25*(H+3)) (fun _=>False) (K+20*(H+3)) (fun _ _=>True) w ρ P f (bV f t H key)):=by
 obtain⟨_,_,_,hR,_⟩:=id hS;have fy:t<f.roots.length:=hW.tl;obtain⟨rl,qu⟩:=eZ (f.roots.length);have Rx:((t:Nat):Int) <(rl:Int):=by omega
 have am:w.drew.cell? ⟨pb,0,none⟩=some (.pointer (some ⟨P,0,none⟩))∧w.drew.cell? ⟨P,0,none⟩=some (.slice (some ⟨A.ra,0,none⟩) rl (rl+A.rj.length))∧w.drew.cell? ⟨ab,0,none⟩=some (.int .i64 t)∧w.drew.cell? ⟨kb,0,none⟩=some (.string key):=by
  refine⟨by show w.cell? _=_;rw[qt.cell];rfl,?_,by show w.cell? _=_;rw[pn.cell];rfl,by show w.cell? _=_;rw[yh.cell];rfl⟩;show w.cell? _=_
  rw[hR.hP.cell];simp[dC,qu]
 go_enter Tryz.func101,Tryz.ntmps101
 go_wp2_with fail
 refine bA (fun W=>W.cell? ⟨pb,0,none⟩=some (.pointer (some ⟨P,0,none⟩))∧W.cell? ⟨P,0,none⟩=some (.slice (some ⟨A.ra,0,none⟩) rl (rl+A.rj.length))∧W.cell? ⟨ab,0,none⟩=some (.int .i64 t)∧W.cell? ⟨kb,0,none⟩=some (.string key)) 9 (by kernel_rfl) ?_;refine aU (i:=0) 3 (.pointer (some ⟨P,0,none⟩)) (by kernel_rfl) (by kernel_rfl) rfl (by kernel_rfl) (by kernel_rfl) (by kernel_rfl) (fun _ _ _ h=>h) rfl rfl am (fun w' hw=>by obtain⟨m1,m2,m3,m4⟩:=hw;go_simp;try rfl) ?_;simp only[Act.put,sB,sZ,sS];refine aU (i:=1) 4 (.pointer (some ⟨P,0,none⟩)) (by kernel_rfl) (by kernel_rfl) rfl (by kernel_rfl) (by kernel_rfl) (by kernel_rfl) (fun _ _ _ h=>h) rfl rfl am (fun w' hw=>by obtain⟨m1,m2,m3,m4⟩:=hw;go_simp;try rfl) ?_;simp only[Act.put,sB,sZ,sS];refine aU (i:=2) 5 (.pointer (some ⟨P,0,none⟩)) (by kernel_rfl) (by kernel_rfl) rfl (by kernel_rfl) (by kernel_rfl) (by kernel_rfl) (fun _ _ _ h=>h) rfl rfl am (fun w' hw=>by obtain⟨m1,m2,m3,m4⟩:=hw;go_simp;try rfl) ?_;simp only[Act.put,sB,sZ,sS];refine aU (i:=3) 6 (.pointer (some ⟨P,0,none⟩)) (by kernel_rfl) (by kernel_rfl) rfl (by kernel_rfl) (by kernel_rfl) (by kernel_rfl) (fun _ _ _ h=>h) rfl rfl am (fun w' hw=>by obtain⟨m1,m2,m3,m4⟩:=hw;go_simp;try rfl) ?_;simp only[Act.put,sB,sZ,sS];refine aU (i:=4) 7 (.slice (some ⟨A.ra,0,none⟩) rl (rl+A.rj.length)) (by kernel_rfl) (by kernel_rfl) rfl (by kernel_rfl) (by kernel_rfl) (by kernel_rfl) (fun _ _ _ h=>h) rfl rfl am (fun w' hw=>by obtain⟨m1,m2,m3,m4⟩:=hw;go_simp;try rfl) ?_;simp only[Act.put,sB,sZ,sS];refine aU (i:=5) 8 (.int .i64 t) (by kernel_rfl) (by kernel_rfl) rfl (by kernel_rfl) (by kernel_rfl) (by kernel_rfl) (fun _ _ _ h=>h) rfl rfl am (fun w' hw=>by obtain⟨m1,m2,m3,m4⟩:=hw;go_simp;try rfl) ?_;simp only[Act.put,sB,sZ,sS];refine aU (i:=6) 9 (.pointer (some ⟨A.ra,t*2,none⟩)) (by kernel_rfl) (by kernel_rfl) rfl (by kernel_rfl) (by kernel_rfl) (by kernel_rfl) (fun _ _ _ h=>h) rfl rfl am (fun w' hw=>by obtain⟨m1,m2,m3,m4⟩:=hw;go_simp;try rfl) ?_;simp only[Act.put,sB,sZ,sS];refine aU (i:=7) 10 (.pointer (some ⟨A.ra,t*2+1,none⟩)) (by kernel_rfl) (by kernel_rfl) rfl (by kernel_rfl) (by kernel_rfl) (by kernel_rfl) (fun _ _ _ h=>h) rfl rfl am (fun w' hw=>by obtain⟨m1,m2,m3,m4⟩:=hw;go_simp;try rfl) ?_;simp only[Act.put,sB,sZ,sS];refine aU (i:=8) 11 (.string key) (by kernel_rfl) (by kernel_rfl) rfl (by kernel_rfl) (by kernel_rfl) (by kernel_rfl) (fun _ _ _ h=>h) rfl rfl am (fun w' hw=>by obtain⟨m1,m2,m3,m4⟩:=hw;go_simp;try rfl) ?_;simp only[Act.put,sB,sZ,sS];refine oE 9 rfl fun K2 ae=>?_;go_simp;have tr:Bl w w.drew:=(bQ _ _).drew;refine(aET (K:=K) w.drew ρ P A f [] t H key (hS.below tr) hW ez jw hz sw hK (by simpa using ku)).mono ?_;intro e w6 Ib;cases bz:bV f t H key with
 | none=>
  obtain⟨rfl,ρ6,A6,g,J6,s6,m6,j6⟩:=Ib.no bz;refine⟨rfl,fun _=>⟨rfl,ρ6,A6,g,J6,s6,⟨(Frm.drew _ w).trans m6.frm,fun x hx=>m6.rol x hx id⟩,j6⟩,fun g h=>by rw[bz]at h;cases h⟩
 | some g=>
  obtain⟨rfl,ρ6,A6,J6,d6,z6⟩:=Ib.yes g bz;have m6:=d6.mv;have HR:Hid (ChP (25*(H+3)) (fun _=>False) (K+20*(H+3)) (fun _ _=>True) w ρ P f (some g) (.returned (.tuple #[])) w6):=by
   refine⟨fun q=>(by cases q),fun g' q=>?_⟩;cases q;exact⟨rfl,ρ6,A6,J6,d6.st,⟨(Frm.drew _ w).trans m6.frm,fun x hx=>m6.rol x hx id⟩,d6.js,z6,trivial⟩
  clear d6 z6 Ib;refine ae _ _ (fun q=>absurd rfl q) ?_;clear ae K2;refine aW (by kernel_rfl) ?_ _;go_wp2;first | go_end0 | refine bodyPost_ret (results_none rfl _ _ _) rfl ?_
  rw[bz];exact HR.out
abbrev An:=Int×Int×ByteArray
def bN(a:An):Value:=.agg #[.int .i64 a.1,.int .i64 a.2.1,.string a.2.2]
def lY(f:fZ)(t:Nat)(key val:ByteArray):fZ×An:=match put f t (hOf f t) key val with
 | none=>(f,7,0,.empty)
 | some (g,th)=>if fJ g.cur g.com<2*fK g.cur.length then(f,7,0,.empty)else(g,0,if th then 1 else 0,.empty)
def mH(f:fZ)(t:Nat)(key:ByteArray):fZ×An:=match Fo.find f.nodes (hOf f t) (aB f t) key with
 | none=>(f,9,0,.empty)
 | some v=>match bV f t (hOf f t) key with
  | none=>(f,7,0,.empty)
  | some g=>if fJ g.cur g.com<2*fK g.cur.length then(f,7,0,.empty)else(g,0,0,v)
def lX(f:fZ)(t:Nat):fZ×An:=if 16≤f.roots.length∨65535≤f.next then(f,4,0,.empty)else(cU f t,0,f.next,.empty)
def nF(f:fZ)(t:Nat):fZ×An:=if f.roots.length=1 then(f,18,0,.empty)else((drop f t (hOf f t)).1,0,(drop f t (hOf f t)).2,.empty)
def nK(f:fZ)(t:Nat)(key:ByteArray):fZ×An:=match Fo.find f.nodes (hOf f t) (aB f t) key with
 | none=>(f,9,0,.empty)
 | some v=>(f,0,0,v)
structure DoP(w:World)(ρ:Nat→Nat)(P:Nat)(r:fZ×An)(e:Ending)(w':World):Prop where
 e:e=.returned (bN r.2)
 ex:∃ρ' A' J',St w' ρ' P A' r.1 J'∧Frm (fun k=>ρ k≠0) w w'∧∀x,x<w.heap.size→ρ x=0→ρ' x=0
theorem jR(W:World)(c:Int):(Instr.build 92 #[(0,.int .i64 c)]).run Tryz.prog W=.ok (.agg #[.int .i64 c,.int .i64 0,.string .empty]) W:=by kernel_rfl
theorem qI(W:World)(c:Int):(Instr.build 92 #[(1,.int .i64 c)]).run Tryz.prog W=.ok (.agg #[.int .i64 0,.int .i64 c,.string .empty]) W:=by kernel_rfl
theorem qJ(W:World)(v:ByteArray):(Instr.build 92 #[(2,.string v)]).run Tryz.prog W=.ok (.agg #[.int .i64 0,.int .i64 0,.string v]) W:=by kernel_rfl
theorem St.no0{J:List aQ}(h:St w ρ P A f J){x:Nat}(hx:w.heap.size≤x):ρ x=0:=Decidable.byContradiction fun q=>by
 obtain⟨_,_,_,q',_⟩:=id h;exact absurd (q'.own x q) (by omega)
theorem fB(w:World)(g:Nat)(a b c:Value):Frm (fun x=>x=g) w (((w.setCell ⟨g,0,none⟩ a).setCell ⟨g,1,none⟩ b).setCell ⟨g,2,none⟩ c):=
 ((Frm.set (S:=fun x=>x=g) w (p:=⟨g,0,none⟩) rfl _).trans (Frm.set (S:=fun x=>x=g) _ (p:=⟨g,1,none⟩) rfl _)).trans (Frm.set (S:=fun x=>x=g) _ (p:=⟨g,2,none⟩) rfl _)
theorem aGM(w:World)(ρ:Nat→Nat)(P:Nat)(A:Adr)(f:fZ)(J:List aQ)(t:Nat)(key val:ByteArray)(h:St w ρ P A f J)(hI:Inv f)(ht:t<f.roots.length):
  Calls Tryz.prog 73 #[.pointer (some ⟨P,0,none⟩),.int .i64 t,.agg #[.string key,.string val]] w (DoP w ρ P (lY f t key val)):=by
 have Kz:∀(fn:Fn) (first cap:Array Value) (w:World),(Instr.makeFunc fn first cap).run Tryz.prog w=.ok (.func fn first cap) w:=fun _ _ _ _=>rfl;have gz:=jR;have ao:=qI;obtain⟨hW,ez,hH⟩:=hI.hOf ht;obtain⟨H,BI⟩:=eZ (hOf f t);obtain⟨w1,bh⟩:=eZ (w.alloc (.cells #[.pointer (some ⟨P,0,none⟩)] 65));obtain⟨w2,ci⟩:=eZ (w1.alloc (.cells #[.int .i64 t] 3));obtain⟨w3,dw⟩:=eZ (w2.alloc (.cells #[.string key,.string val] 85));obtain⟨w4,cn⟩:=eZ (w3.alloc (.cells #[.int .i64 0,.int .i64 0,.string {data:=#[]}] 92));obtain⟨w5,sf⟩:=eZ (w4.alloc (.cells #[.bool false] 4));obtain⟨pb,qt⟩:=eZ (w.heap.size);obtain⟨ab,pn⟩:=eZ (w1.heap.size);obtain⟨ib,OT⟩:=eZ (w2.heap.size);obtain⟨rb,fl⟩:=eZ (w3.heap.size);obtain⟨tb,OZ⟩:=eZ (w4.heap.size);have nf:∀(u:World) (o:Obj) (v:World),u.alloc o=v→Bl u v∧v.heap.size=u.heap.size+1:=fun u o v e=>by rw[←e];exact⟨(bQ _ u).alloc (nR _) _,by simp⟩
 have nh:∀(u:World) (cs:Array Value) (ty:TypeId) (v:World),u.alloc (.cells cs ty)=v→IsC v u.heap.size cs ty:=fun u cs ty v e=>by rw[←e];exact IsC.new _ _ _
 obtain⟨B1,s1⟩:=nf _ _ _ bh;obtain⟨B2,s2⟩:=nf _ _ _ ci;obtain⟨B3,s3⟩:=nf _ _ _ dw;obtain⟨B4,s4⟩:=nf _ _ _ cn;obtain⟨B5,s5⟩:=nf _ _ _ sf;have B35:Bl w3 w5:=B4.trans (B5.mono (by omega));have B25:Bl w2 w5:=B3.trans (B35.mono (by omega));have B15:Bl w1 w5:=B2.trans (B25.mono (by omega));have B05:Bl w w5:=B1.trans (B15.mono (by omega));have z1:IsC w5 pb #[.pointer (some ⟨P,0,none⟩)] 65:=by have:=nh _ _ _ _ bh;rw[←qt];exact this.of (B15.block _ this.lt)
 have z2:IsC w5 ab #[.int .i64 t] 3:=by have:=nh _ _ _ _ ci;rw[←pn];exact this.of (B25.block _ this.lt)
 have z3:IsC w5 ib #[.string key,.string val] 85:=by have:=nh _ _ _ _ dw;rw[←OT];exact this.of (B35.block _ this.lt)
 have z4:IsC w5 rb #[.int .i64 0,.int .i64 0,.string {data:=#[]}] 92:=by have:=nh _ _ _ _ cn;rw[←fl];exact this.of (B5.block _ this.lt)
 have z5:IsC w5 tb #[.bool false] 4:=by have:=nh _ _ _ _ sf;rw[←OZ];exact this
 have G:w.heap.size≤pb∧w.heap.size≤ab∧w.heap.size≤ib∧w.heap.size≤rb∧w.heap.size≤tb∧rb≠tb∧pb≠tb∧ab≠tb∧ib≠tb:=by omega
 have k0:w5.cell? ⟨tb,0,none⟩=some (.bool false):=z5.c rfl;have k0':=z5.frozen 0;obtain⟨w6,wi⟩:=eZ (w5.setCell ⟨tb,0,none⟩ (.bool false));have F6:Frm (fun x=>x=tb) w5 w6:=by rw[←wi];exact Frm.set (S:=fun x=>x=tb) w5 (p:=⟨tb,0,none⟩) rfl _
 have c1:=z1.frm F6 (by omega);have c2:=z2.frm F6 (by omega);have c3:=z3.frm F6 (by omega);have c4:=z4.frm F6 (by omega);have c5:IsC w6 tb #[.bool false] 4:=by
  have:=z5.set 0 (.bool false)
  rw[wi]at this;exact this
 have B06:Bl w w6:=⟨F6.os.trans B05.os,F6.tape.trans B05.tape,F6.output.trans B05.output,lT B05.size F6.size,fun k hk=>(F6.block k (by omega) (by omega)).trans (B05.block k hk)⟩;have cq:=h.below B06;have k1:w6.cell? ⟨pb,0,none⟩=some (.pointer (some ⟨P,0,none⟩)):=c1.c rfl;have jt:=qU (K:=2576) (L:=2576+10*(H+3)) (13*(H+3)) (fun x=>x=tb) (aLJ f t H key val tb) 98 #[.pointer (some ⟨pb,0,none⟩),.pointer (some ⟨ab,0,none⟩),.pointer (some ⟨ib,0,none⟩),.pointer (some ⟨tb,0,none⟩)] w6 ρ P A f J ((put f t H key val).map Prod.fst) cq hI.sz (by omega) (by omega) hI.ne hI.r16
  (fun x e=>by rw[e];exact⟨c5.lt,h.no0 G.2.2.2.2.1⟩) (fun g h1 h2 hh ⟨th,e1,e2⟩=>⟨th,e1,by rw[←hh _ c5.lt];exact e2⟩) (fun _ _=>rfl)
  (fun W hF hS=>by
   have hP:P<w.heap.size:=by obtain⟨_,_,_,q,_⟩:=id h;exact q.hP.lt
   rw[BI]at hW ez hH;exact aDY (K:=2576) W ρ P A f t H key val pb ab ib tb false hS hW ez hI.sz (by omega) (by omega) (by omega) (c1.frm hF (by omega)) (c2.frm hF (by omega)) (c3.frm hF (by omega)) (c5.frm hF (by omega)) ⟨h.no0 G.1,h.no0 G.2.1,h.no0 G.2.2.1,h.no0 G.2.2.2.2.1⟩ hI.r16)
 have HS:=aA (aI s1 (aI s2 (aI s3 (aI s4 s5))));clear s1 s2 s3 s4 s5;go_enter Tryz.func73,Tryz.ntmps73;go_wp2_with fail;refine jt.mono ?_;rintro e w7 ⟨rfl,⟨ρ7,A7,J7,s7,f7,r7⟩,t7⟩;have zg:ρ rb=0:=h.no0 G.2.2.2.1;have KI:rb<w6.heap.size:=c4.lt;have d4:IsC w7 rb #[.int .i64 0,.int .i64 0,.string {data:=#[]}] 92:=c4.frm f7 (fun q=>q.elim (fun q=>q zg) (fun q=>G.2.2.2.2.2.1 q));have e0:w7.cell? ⟨rb,0,none⟩=some (.int .i64 0):=d4.c rfl;have e1:w7.cell? ⟨rb,1,none⟩=some (.int .i64 0):=d4.c rfl;have e2:w7.cell? ⟨rb,2,none⟩=some (.string {data:=#[]}):=d4.c rfl;have q0:=d4.frozen 0;have q1:=d4.frozen 1;have q2:=d4.frozen 2;have HF:Hid (∀(r:fZ×An) (w8:World),r.1=(iY f ((put f t H key val).map Prod.fst)).1→Frm (fun x=>x=rb) w7 w8→DoP w ρ P r (.returned (bN r.2)) w8):=fun r w8 hr hF=>by
  refine⟨rfl,ρ7,A7,J7,?_,?_,fun x hx h0=>r7 x (lL hx B06.size) h0⟩
  ·rw[hr];exact s7.frm (hF.wide fun x _ e=>by rw[e];exact r7 rb KI zg)
  ·exact((Frm.of_below B06).next f7 fun x hx q=>q.elim id fun q=>absurd q (by omega)).next hF fun x hx q=>absurd q (by omega)
 have X7:Hid (Frm (fun x=>x=rb) w7 w7):=Frm.refl _ _;cases bz:put f t H key val with
 | none=>
  have Bq:lY f t key val=(f,7,0,.empty):=by unfold lY;rw[BI,bz]
  have hr:f=(iY f ((put f t H key val).map Prod.fst)).1:=by rw[bz];rfl
  have hc:(iY f ((none:Option (fZ×Bool)).map Prod.fst)).2=7:=rfl;rw[hc];have HX:=aA (aI Bq hr);clear Bq hr hc bz;go_wp2;refine bodyPost_ret (v:=bN (7,0,.empty)) (by simp[bN,results,Tryz.results73,go_sem,e0,e1,e2];try rfl) rfl ?_;rw[HX.out.1];exact HF.out (f,7,0,ByteArray.empty) _ HX.out.2 (fB _ _ _ _ _)
 | some gt=>
  obtain⟨g,th⟩:=gt;by_cases ai:fJ g.cur g.com<2*fK g.cur.length
  ·have Bq:lY f t key val=(f,7,0,.empty):=by unfold lY;rw[BI,bz];simp only;rw[if_pos ai]
   have ny:iY f (((some (g,th)):Option (fZ×Bool)).map Prod.fst)=(f,7):=by show(if fJ g.cur g.com<2*fK g.cur.length then(f,(7:Int))else(g,0))=_;rw[if_pos ai]
   have hr:f=(iY f ((put f t H key val).map Prod.fst)).1:=by rw[bz,ny]
   rw[ny];have HX:=aA (aI Bq hr);clear Bq hr ny bz ai t7;go_wp2;refine bodyPost_ret (v:=bN (7,0,.empty)) (by simp[bN,results,Tryz.results73,go_sem,e0,e1,e2];try rfl) rfl ?_;rw[HX.out.1];exact HF.out (f,7,0,ByteArray.empty) _ HX.out.2 (fB _ _ _ _ _)
  ·have Bq:lY f t key val=(g,0,if th then 1 else 0,.empty):=by unfold lY;rw[BI,bz];simp only;rw[if_neg ai]
   have ny:iY f (((some (g,th)):Option (fZ×Bool)).map Prod.fst)=(g,0):=by show(if fJ g.cur g.com<2*fK g.cur.length then(f,(7:Int))else(g,0))=_;rw[if_neg ai]
   have hr:g=(iY f ((put f t H key val).map Prod.fst)).1:=by rw[bz,ny]
   rw[bz,ny]at t7;obtain⟨th',y1,y2⟩:=t7 rfl;rw[bz]at y1;cases y1;have ct:w7.cell? ⟨tb,0,none⟩=some (.bool th):=by rw[(show IsC w7 tb #[.bool th] 4 from y2).cell];rfl
   rw[ny];have HX:=aA (aI Bq hr);clear Bq hr ny bz ai t7 y2;cases th with
   | true=>
    go_wp2
    refine bodyPost_ret (v:=bN (0,1,.empty)) (by simp[bN,results,Tryz.results73,go_sem,e0,e1,e2];try rfl) rfl ?_;rw[HX.out.1];exact HF.out (g,0,1,ByteArray.empty) _ HX.out.2 (fB _ _ _ _ _)
   | false=>
    go_wp2
    refine bodyPost_ret (v:=bN (0,0,.empty)) (by simp[bN,results,Tryz.results73,go_sem,e0,e1,e2];try rfl) rfl ?_;rw[HX.out.1];exact HF.out (g,0,0,ByteArray.empty) _ HX.out.2 (fB _ _ _ _ _)
theorem St.rootAt{J:List aQ}(h:St w ρ P A f J)(hI:IC f)(ht:t<f.roots.length):w.cell? ⟨A.ra,t*2+1,none⟩=some (.int .i64 (aB f t)):=by
 have h0:0≤(f.roots.getD t (0,0)).2:=(hI.rb _ (aO ht)).1;exact(h.rootCell ht h0).1
theorem yJ(w:World)(ρ:Nat→Nat)(P:Nat)(A:Adr)(f:fZ)(J:List aQ)(t:Nat)(key:ByteArray)(h:St w ρ P A f J)(hI:Inv f)(ht:t<f.roots.length):
  Calls Tryz.prog 74 #[.pointer (some ⟨P,0,none⟩),.int .i64 t,.string key] w (DoP w ρ P (mH f t key)):=by
 have Kz:∀(fn:Fn) (first cap:Array Value) (w:World),(Instr.makeFunc fn first cap).run Tryz.prog w=.ok (.func fn first cap) w:=fun _ _ _ _=>rfl;have gz:=jR;have ba:=qJ;obtain⟨hW,ez,hH⟩:=hI.hOf ht;obtain⟨H,BI⟩:=eZ (hOf f t);rw[BI]at hW ez hH;obtain⟨w1,bh⟩:=eZ (w.alloc (.cells #[.pointer (some ⟨P,0,none⟩)] 65));obtain⟨w2,ci⟩:=eZ (w1.alloc (.cells #[.int .i64 t] 3));obtain⟨w3,dw⟩:=eZ (w2.alloc (.cells #[.string key] 9));obtain⟨w4,cn⟩:=eZ (w3.alloc (.cells #[.int .i64 0,.int .i64 0,.string {data:=#[]}] 92));obtain⟨pb,qt⟩:=eZ (w.heap.size);obtain⟨ab,pn⟩:=eZ (w1.heap.size);obtain⟨kb,yh⟩:=eZ (w2.heap.size);obtain⟨rb,fl⟩:=eZ (w3.heap.size);have nf:∀(u:World) (o:Obj) (v:World),u.alloc o=v→Bl u v∧v.heap.size=u.heap.size+1:=fun u o v e=>by rw[←e];exact⟨(bQ _ u).alloc (nR _) _,by simp⟩
 have nh:∀(u:World) (cs:Array Value) (ty:TypeId) (v:World),u.alloc (.cells cs ty)=v→IsC v u.heap.size cs ty:=fun u cs ty v e=>by rw[←e];exact IsC.new _ _ _
 obtain⟨B1,s1⟩:=nf _ _ _ bh;obtain⟨B2,s2⟩:=nf _ _ _ ci;obtain⟨B3,s3⟩:=nf _ _ _ dw;obtain⟨B4,s4⟩:=nf _ _ _ cn;have B24:Bl w2 w4:=B3.trans (B4.mono (by omega));have B14:Bl w1 w4:=B2.trans (B24.mono (by omega));have B04:Bl w w4:=B1.trans (B14.mono (by omega));have c1:IsC w4 pb #[.pointer (some ⟨P,0,none⟩)] 65:=by have:=nh _ _ _ _ bh;rw[←qt];exact this.of (B14.block _ this.lt)
 have c2:IsC w4 ab #[.int .i64 t] 3:=by have:=nh _ _ _ _ ci;rw[←pn];exact this.of (B24.block _ this.lt)
 have c3:IsC w4 kb #[.string key] 9:=by have:=nh _ _ _ _ dw;rw[←yh];exact this.of (B4.block _ this.lt)
 have c4:IsC w4 rb #[.int .i64 0,.int .i64 0,.string {data:=#[]}] 92:=by have:=nh _ _ _ _ cn;rw[←fl];exact this
 have G:w.heap.size≤pb∧w.heap.size≤ab∧w.heap.size≤kb∧w.heap.size≤rb:=by omega
 have aw:=h.below B04;obtain⟨_,_,_,lj,_⟩:=id aw;have fy:((t:Nat):Int) <(f.roots.length:Int):=by omega
 have UW:=aA ((aCO (K:=2576) w4.drew ρ P A f J H (aB f t) none none key (aw.below (bQ _ _).drew) hI.ic hW.ok hI.sz).mono (fun e w' hw=>aI hw.1 (show Bl w4 w' from(bQ _ w4).drew.trans hw.2)));have hS:∀W:World,Bl w4 W→W.cell? ⟨pb,0,none⟩=some (.pointer (some ⟨P,0,none⟩))∧W.cell? ⟨P,0,none⟩=some (.slice (some ⟨A.ra,0,none⟩) f.roots.length (f.roots.length+A.rj.length))∧W.cell? ⟨ab,0,none⟩=some (.int .i64 t)∧W.cell? ⟨A.ra,t*2+1,none⟩=some (.int .i64 (aB f t))∧W.cell? ⟨kb,0,none⟩=some (.string key):=fun W hB=>by
  refine⟨?_,?_,?_,?_,?_⟩
  ·rw[hB.cell c1.lt,c1.cell];rfl
  ·rw[hB.cell lj.hP.lt,lj.hP.cell];rfl
  ·rw[hB.cell c2.lt,c2.cell];rfl
  ·exact(aw.below hB).rootAt hI.ic ht
  ·rw[hB.cell c3.lt,c3.cell];rfl
 have Uy:=aA hS;have HS:=aA (aI s1 (aI s2 (aI s3 s4)));obtain⟨y1,y2,y3,y4,y5⟩:=hS w4 (bQ _ _);clear s1 s2 s3 s4 hS;go_enter Tryz.func74,Tryz.ntmps74;go_wp2_with fail;go_region_held3 (fun W=>W.cell? ⟨pb,0,none⟩=some (.pointer (some ⟨P,0,none⟩))∧W.cell? ⟨P,0,none⟩=some (.slice (some ⟨A.ra,0,none⟩) f.roots.length (f.roots.length+A.rj.length))∧W.cell? ⟨ab,0,none⟩=some (.int .i64 t)∧W.cell? ⟨A.ra,t*2+1,none⟩=some (.int .i64 (aB f t))∧W.cell? ⟨kb,0,none⟩=some (.string key)) (first | assumption | go_keep)
  ((go_at_call 100;refine UW.out.mono ?_;rintro e w5 ⟨rfl,et⟩;have oe:=Uy.out _ et))
 clear oe y1 y2 y3 y4 y5;have B05:Bl w w5:=B04.trans (et.mono (Nat.le_of_lt (by have:=HS.out;omega)));have cq:=h.below B05;have d1:=c1.of (et.block _ c1.lt);have d2:=c2.of (et.block _ c2.lt);have d3:=c3.of (et.block _ c3.lt);have d4:=c4.of (et.block _ c4.lt);have zg:ρ rb=0:=h.no0 G.2.2.2;cases lp:Fo.find f.nodes H (aB f t) key with
 | none=>
  have e0:w5.cell? ⟨rb,0,none⟩=some (.int .i64 0):=d4.c rfl;have e1:w5.cell? ⟨rb,1,none⟩=some (.int .i64 0):=d4.c rfl;have e2:w5.cell? ⟨rb,2,none⟩=some (.string {data:=#[]}):=d4.c rfl;have q0:=d4.frozen 0;have q1:=d4.frozen 1;have q2:=d4.frozen 2;have HX:Hid (mH f t key=(f,9,0,.empty)):=by unfold mH;rw[BI,lp];rfl
  have HF:Hid (∀w8:World,Frm (fun x=>x=rb) w5 w8→DoP w ρ P (f,9,0,.empty) (.returned (bN (9,0,.empty))) w8):=fun w8 hF=>
   ⟨rfl,ρ,A,J,cq.frm (hF.wide fun x _ e=>by rw[e];exact zg),(Frm.of_below B05).next hF fun x hx q=>absurd q (by omega),fun x _ h0=>h0⟩
  clear lp;go_wp2;refine bodyPost_ret (v:=bN (9,0,.empty)) (by simp[bN,results,Tryz.results74,go_sem,e0,e1,e2];try rfl) rfl ?_;rw[HX.out];exact HF.out _ (fB _ _ _ _ _)
 | some v=>
  have jw:=kS hW.ok lp;have k1:w5.cell? ⟨pb,0,none⟩=some (.pointer (some ⟨P,0,none⟩)):=d1.c rfl;have jt:=qU (K:=2576) (L:=2576+20*(H+3)) (25*(H+3)) (fun _=>False) (fun _ _=>True) 101 #[.pointer (some ⟨pb,0,none⟩),.pointer (some ⟨ab,0,none⟩),.pointer (some ⟨kb,0,none⟩)] w5 ρ P A f J (bV f t H key) cq hI.sz (by omega) (by omega) hI.ne hI.r16
   (fun x e=>e.elim) (fun g h1 h2 hh _=>trivial) (fun _ _=>rfl)
   (fun W hF hS=>by
    have hP:P<w.heap.size:=by obtain⟨_,_,_,q,_⟩:=id h;exact q.hP.lt
    exact wI (K:=2576) W ρ P A f t H key pb ab kb hS hW ez jw hI.sz (by omega) (by omega) (by omega) (d1.frm hF (by omega)) (d2.frm hF (by omega)) (d3.frm hF (by omega)) hI.r16)
  have Nq:=aA lp;clear lp;go_wp2_with fail;refine jt.mono ?_;rintro e w7 ⟨rfl,⟨ρ7,A7,J7,s7,f7,r7⟩,-⟩;have f4:IsC w7 rb #[.int .i64 0,.int .i64 0,.string {data:=#[]}] 92:=d4.frm f7 (fun q=>q.elim (fun q=>q zg) id);have e0:w7.cell? ⟨rb,0,none⟩=some (.int .i64 0):=f4.c rfl;have e1:w7.cell? ⟨rb,1,none⟩=some (.int .i64 0):=f4.c rfl;have e2:w7.cell? ⟨rb,2,none⟩=some (.string {data:=#[]}):=f4.c rfl;have q0:=f4.frozen 0;have q1:=f4.frozen 1;have q2:=f4.frozen 2;have KI:rb<w5.heap.size:=d4.lt;have HF:Hid (∀(r:fZ×An) (w8:World),r.1=(iY f (bV f t H key)).1→Frm (fun x=>x=rb) w7 w8→DoP w ρ P r (.returned (bN r.2)) w8):=fun r w8 hr hF=>by
   refine⟨rfl,ρ7,A7,J7,?_,?_,fun x hx h0=>r7 x (lL hx B05.size) h0⟩
   ·rw[hr];exact s7.frm (hF.wide fun x _ e=>by rw[e];exact r7 rb KI zg)
   ·exact((Frm.of_below B05).next f7 fun x hx q=>q.elim id False.elim).next hF fun x hx q=>absurd q (by omega)
  have fg:mH f t key=match bV f t H key with
   | none=>(f,7,0,.empty)
   | some g=>if fJ g.cur g.com<2*fK g.cur.length then(f,7,0,.empty)else(g,0,0,v):=by unfold mH;rw[BI,Nq.out]<;>rfl
  cases bz:bV f t H key with
  | none=>
   have hr:f=(iY f (bV f t H key)).1:=by rw[bz];rfl
   have hc:(iY f none).2=7:=rfl;rw[bz]at fg;rw[hc];have HX:=aA (aI fg hr);clear fg hr hc bz;go_wp2;refine bodyPost_ret (v:=bN (7,0,.empty)) (by simp[bN,results,Tryz.results74,go_sem,e0,e1,e2];try rfl) rfl ?_;rw[HX.out.1];exact HF.out (f,7,0,ByteArray.empty) _ HX.out.2 (fB _ _ _ _ _)
  | some g=>
   rw[bz]at fg;simp only at fg;by_cases ai:fJ g.cur g.com<2*fK g.cur.length
   ·rw[if_pos ai]at fg
    have ny:iY f (some g)=(f,7):=by show(if fJ g.cur g.com<2*fK g.cur.length then(f,(7:Int))else(g,0))=_;rw[if_pos ai]
    have hr:f=(iY f (bV f t H key)).1:=by rw[bz,ny]
    rw[ny];have HX:=aA (aI fg hr);clear fg hr ny bz ai;go_wp2;refine bodyPost_ret (v:=bN (7,0,.empty)) (by simp[bN,results,Tryz.results74,go_sem,e0,e1,e2];try rfl) rfl ?_;rw[HX.out.1];exact HF.out (f,7,0,ByteArray.empty) _ HX.out.2 (fB _ _ _ _ _)
   ·rw[if_neg ai]at fg
    have ny:iY f (some g)=(g,0):=by show(if fJ g.cur g.com<2*fK g.cur.length then(f,(7:Int))else(g,0))=_;rw[if_neg ai]
    have hr:g=(iY f (bV f t H key)).1:=by rw[bz,ny]
    rw[ny];have HX:=aA (aI fg hr);clear fg hr ny bz ai;go_wp2;refine bodyPost_ret (v:=bN (0,0,v)) (by simp[bN,results,Tryz.results74,go_sem,e0,e1,e2];try rfl) rfl ?_;rw[HX.out.1];exact HF.out (g,0,0,v) _ HX.out.2 (fB _ _ _ _ _)
