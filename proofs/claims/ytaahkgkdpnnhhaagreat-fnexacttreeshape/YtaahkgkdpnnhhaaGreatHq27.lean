import Derived.Defers
import Derived.Recover
import Derived.Test.YtaahkgkdpnnhhaaGreatHq21
set_option maxHeartbeats 9999999
set_option maxRecDepth 99999
set_option linter.all false
namespace Go.Proofs.YtaahkgkdpnnhhaaGreat
open Go.RowKit Go.Shelf Fo
attribute [local go_sem] Oper.semAt_some
theorem tX{F:Fence}{n:Nat}{P:Program}{g:Operand}{ps:Array Tmp}{assign body:Code}{Q:Exit→Act→World→Prop}{a:Act}{w:World}
  (cy:F.round=none) (h1:1≤n) {gf:Nat} {lb:Array Value} (hg:a.eval g=.func (.func gf) #[] lb) (Pa:F.fn gf) (eg:∀args w,(callFunc gf args).run P w=.ok (.enter gf args) w)
  {Kp:World→World→Prop} {vs:List (Array Value)} {w0:World} (KN:aIM F (n-1) P gf lb vs Kp w0)
  (Ke:∀{A B C:World},Kp A B→Kp B C→Kp A C) (IV:∀(W:World) (l:Nat) (o o':Obj),w.heap.size≤l→W.heap[l]?=some o→o.isCells=false→o.isWalk=false→Kp W (W.putObj l o')) (ik:Bl w0 w) (KD:∀x∈vs,x.size=ps.size)
  (I:List (Array Value)→World→Prop) (hI:OwnFrom w.heap.size I) (h0:I [] w)
  (um:∀(l:Nat) (pre:List (Array Value)) (x:Array Value) (W:World),I pre W→pre++[x] <+: vs→
   assign.wpIn (F.inRound l) (n-1-1) P (Exit.then (fun a' W'=>KeepsFrom w.heap.size W W'∧Kp W W'∧∃I2:List Unit→World→Prop,OwnFrom w.heap.size I2∧I2 [] W'∧∀W2,I2 [] W2→body.wpIn (F.inRound l) (n-1-1) P (ownPostG w.heap.size Kp I (fun _ _ _=>False) (pre++[x]) W2) a' W2) (fun _ _ _=>False)) {tmps:=(ps.zip x).foldl (fun t (p,v)=>t.setIfInBounds p v) a.tmps,defers:=[]} W)
  (AH:∀(D:Nat) (W:World),w.heap.size≤D→I vs W→W.heap[D]?=some (.deferred (some []))→Q .normal {a with defers:={target:=.collected D,args:=#[]} :: a.defers} W):
  (Code.rangeFunc g ps assign body).wpIn F n P Q a w:=by
 refine wpIn_rangeFunc fun fn o9=>?_;rw[cy];obtain⟨D,hD⟩:=eZ (w.heap.size);obtain⟨R,hR⟩:∃R:LoopState→Option Code→Loop,R=fun st pe=>{state:=st,pending:=pe,fn,tmps:=a.tmps,params:=ps,assign,body,defers:=w.heap.size}:=⟨_,rfl⟩;obtain⟨V,hV⟩:=eZ ((w.alloc (.deferred (some []))).alloc (.loop (R .ready none)));have sz:V.heap.size=D+2:=by rw[←hV,←hD];simp
 have atL:V.heap[D+1]?=some (.loop (R .ready none)):=by
  have:=World.alloc_heap_new (w.alloc (.deferred (some []))) (.loop (R .ready none))
  rw[World.size_alloc,hV,hD]at this;exact this
 have atD:V.heap[D]?=some (.deferred (some [])):=by
  rw[←hV,←hD];exact(Below.heap_alloc _ _ _ (by simp)).trans (World.alloc_heap_new w _)
 have start:I [] V:=by rw[←hV];exact hI.alloc _ (hI.alloc _ h0)
 have old:Bl w0 V:=by
  rw[←hV];exact ik.trans ((((bQ _ w).alloc (nR _) _).alloc (by simp) _).mono ik.size)
 refine⟨D+1,[{target:=.collected D,args:=#[]}],V,{target:=.fn (.func gf) lb,args:=#[.func (.yield (D+1)) #[] #[]]},V,gf,#[.func (.yield (D+1)) #[] #[]]++lb,V,?_,?_,?_,?_,fun _=>h1,?_⟩
 ·rw[←hV,←hD,hR];exact run_enterLoop_outer _ _ _ _ _
 ·simp only[resolve,hg];simp[go_sem]
 ·intro f' ER;simp[Target.leads]at ER;subst ER;exact Pa
 ·simp[invoke,go_sem,eg]
 rw[hD]at hI IV um AH;have book:AbidesFrom V.heap.size fun pre W=>I pre W∧W.heap[D+1]?=some (.loop (R .ready none))∧W.heap[D]?=some (.deferred (some [])):=fun s X Y row hs rk hr=>
  ⟨hI s X Y row hs.1 rk fun r e=>by obtain⟨hB,o,ho,hw⟩:=hr r e;exact⟨by omega,o,ho,Obj.not_cells_of_walk hw⟩,
   (grownBy_keeps rk (fun r e=>(hr r e).2) hs.2.1 rfl).trans hs.2.1,(grownBy_keeps rk (fun r e=>(hr r e).2) hs.2.2 rfl).trans hs.2.2⟩
 refine(KN (D+1) _ V old book (fun pre x W hJ lg=>?_) ⟨start,atL,atD⟩).mono ?_
 ·obtain⟨hi,hl,hk⟩:=hJ
  have ai:D+1<W.heap.size:=(Array.getElem?_eq_some_iff.1 hl).1;have hy:=run_yield (P:=P) (args:=x) hl (by rw[hR];exact KD x (lg.subset (by simp)));rw[hR]at hy;refine⟨fn,_,assign,body,hy,roundIn_of_wpIn o9 (wpIn_mono (um (D+1) pre x W hi lg) ?_)⟩;clear hy;rintro e a' W' h;cases e with
  | ret=>exact h
  | exit id=>exact h
  | goto t=>exact h
  | panic ch=>exact h
  | outgrown=>exact h
  | normal=>
  obtain⟨kA,pA,I2,vq,AK,EF⟩:=h;have As:=kA.same _ _ (by omega) hl rfl;have qp:=kA.same _ _ (nR _) hk rfl;have C0:D+1<W'.heap.size:=(Array.getElem?_eq_some_iff.1 As).1;refine⟨_,run_beginRound As (by rw[hR]),?_⟩;have b2:(W'.putObj (D+1) (.loop {R .ready none with state:=.busy})).heap[D+1]?=some (.loop {R .ready none with state:=.busy}):=World.putObj_heap_same C0;have d2:(W'.putObj (D+1) (.loop {R .ready none with state:=.busy})).heap[D]?=some (.deferred (some [])):=(World.putObj_heap_other (by omega)).trans qp;refine wpIn_mono (EF _ (vq.putObj _ AK (by omega) As rfl)) ?_;rintro e a3 W3 hp;cases e with
  | normal=>
   obtain⟨k3,p3,i3⟩:=hp;have l3:=k3.same _ _ (by omega) b2 rfl;have hr:=run_endRound (P:=P) none l3;rw[hR]at hr l3;refine⟨_,_,hr,rfl,⟨hI.putObj _ i3 (by omega) l3 rfl,?_,?_⟩,Ke pA (Ke (Ke (IV _ _ _ _ (by omega) As rfl rfl) p3) (IV _ _ _ _ (by omega) l3 rfl rfl))⟩
   ·rw[hR];exact World.putObj_heap_same (Array.getElem?_eq_some_iff.1 l3).1
   ·exact(World.putObj_heap_other (by omega)).trans (k3.same _ _ (nR _) d2 rfl)
  | ret=>exact hp.2.elim
  | exit id=>exact hp.2.elim
  | goto t=>exact hp.2.elim
  | panic ch=>exact hp.elim
  | outgrown=>exact hp.elim
 ·rintro e W2 ⟨⟨v,rfl⟩,hi,hl,hk⟩
  exact⟨none,_,by have:=run_endLoop (P:=P) hl (by rw[hR];simp);rw[hR]at this;exact this,AH _ _ (nR _) (hI.putObj _ hi (by omega) hl rfl) ((World.putObj_heap_other (by omega)).trans hk)⟩
attribute [local go_sem] Oper.semAt_some
section
variable {w w' : World} {ρ : Nat → Nat} {P : Nat} {A : Adr} {g : fZ} {ja : Option Nat} {jp jj : List JE} {J : List aQ}
theorem wZ{k r:Nat}(h:isN r):¬isK k r:=fun e=>h.2 (aMF e)
theorem St.undoC{k:Nat}(h:St w ρ P A g fL)(hK:JrK w ρ ja jp jj J k){b:Nat}(hb:b<g.cur.length)(v:Int):St (w.setCell ⟨A.c,b,none⟩ (.int .i64 v)) ρ P A (Fo.setC g b v) fL∧JrK (w.setCell ⟨A.c,b,none⟩ (.int .i64 v)) ρ ja jp jj J k:=by
 have hc:ρ A.c=4∧∀x,ρ x≠0→x<w.heap.size:=by obtain⟨_,_,_,h1,_⟩:=h;exact⟨h1.rc,h1.own⟩
 exact⟨(h.setC hb v).1,hK.frm (S:=fun x=>x=A.c) (nR _) (Frm.set (S:=fun x=>x=A.c) w (p:=⟨A.c,b,none⟩) rfl _) hc.2 (fun x e=>by rw[e,hc.1];exact wZ aCQ) (fun _ _=>rfl)⟩
theorem St.undoD{i:Nat}(h:St w ρ P A g fL)(hK:JrK w ρ ja jp jj J (i+1)){b:Nat}(hM:dS w' A.m (upd A.φ b none))(hF:Frm (fun x=>x=A.m) w w'):St w' ρ P (gQ A b) (noN g b) fL∧JrK w' ρ ja jp jj J i:=by
 have hc:ρ A.m=3∧∀x,ρ x≠0→x<w.heap.size:=by obtain⟨_,_,_,h1,_⟩:=h;exact⟨h1.rm,h1.own⟩
 exact⟨(h.del hM hF).1,hK.frm (Nat.le_succ _) hF hc.2 (fun x e=>by rw[e,hc.1];exact wZ vA) (fun _ _=>rfl)⟩
theorem St.undoP{i:Nat}(h:St w ρ P A g fL)(hK:JrK w ρ ja jp jj J (i+1)){b q:Nat}{d:Nd}{a:Option Nat}{junk:List E3}(hq:ρ q=jW i)(ha:∀x,a=some x→ρ x=jX i)(hN:aM w q d a junk)(hM:dS w' A.m (upd A.φ b (some q)))(hF:Frm (fun x=>x=A.m) w w'):
  ∃ρ',St w' ρ' P (cV A b q a) (setN g b d) fL∧JrK w' ρ' ja jp jj J i∧∀x,ρ' x≠0→ρ x≠0:=by
 have hc:ρ A.m=3∧∀x,ρ x≠0→x<w.heap.size:=by obtain⟨_,_,_,h1,_⟩:=h;exact⟨h1.rm,h1.own⟩
 have h1:=h.unrole (q:=q) (a:=a) (by rw[hq];exact qR i) (fun x e=>by rw[ha x e];exact qS i);obtain⟨h2,-⟩:=h1.put hN (by simp[aBF]) (fun x e=>by simp[aBF,e]) hM hF;refine⟨_,h2,hK.frm (Nat.le_succ _) hF hc.2 (fun x e=>by rw[e,hc.1];exact wZ vA) (fun x hx=>?_),fun x hx e0=>?_⟩
 ·have e1:x≠q:=fun e=>by rw[e,hq]at hx;exact aLL (Nat.lt_irrefl i) hx
  have e2:a≠some x:=fun e=>by rw[ha x e]at hx;exact aLM (Nat.lt_irrefl i) hx
  simp[uN,aBF,e1,e2]
 ·have e1:x≠q:=fun e=>by rw[e,hq]at e0;unfold jW at e0;omega
  have e2:a≠some x:=fun e=>by rw[ha x e]at e0;unfold jX at e0;omega
  simp[uN,aBF,e1,e2,e0]at hx
end
structure RsP(w:World)(ρ:Nat→Nat)(P:Nat)(f:fZ)(J:List aQ)(gr:Nat)(rs:List (Int×Int))(e:Ending)(w':World):Prop where
 e:e=.returned (.tuple #[])
 ex:∃ρ' A',St w' ρ' P A' {eC f J with roots:=rs} fL∧Frm (fun k=>ρ k≠0) w w'∧∀x,x≠gr→ρ' x≠0→ρ x≠0
theorem aFR(f:fZ)(K:List aQ):(eC f K).cur.length=f.cur.length:=(oQ f K).2.2.2.2.2
theorem aBE(F:Fence)(n:Nat)(hF:mU F Tryz.prog)(cy:F.round=none)(hn:5≤n)
  (w:World) (ρ:Nat→Nat) (P:Nat) (A:Adr) (f:fZ) (J:List aQ) (gr cr:Nat) (rs rj:List (Int×Int)) (hS:St w ρ P A f J) (kz:J.length≤900000) (Bj:f.cur.length≤512) (ai:∀r∈J,r.1<f.cur.length) (bm:IsC w gr (cT (rs++rj)) 77) (GV:ρ gr=0) (EN:cr=rs.length+rj.length) (lq:rs.length+rj.length≤maxLen):
  CallsIn F n Tryz.prog 112 #[.pointer (some ⟨P,0,none⟩),.slice (some ⟨gr,0,none⟩) rs.length cr] w (RsP w ρ P f J gr rs):=by
 have nm:1≤n:=by omega
 subst EN;obtain⟨ja,jp,jj,hR,Kd⟩:=id hS;have hJ:=Kd (by omega);have DK:=hR.hP.lt;refine callsIn_of_wp_marks Tryz.func112 rfl (hF.fn _) ?_ cy;simp only[Tryz.ntmps112,List.size_toArray,List.length_cons,List.length_nil,Nat.reduceAdd,Nat.reduceSub,Array.replicate_succ,Array.replicate_zero,List.push_toArray,List.append_toArray,List.nil_append,List.cons_append];obtain⟨B0,c9⟩:=eZ (w.heap.size);obtain⟨w1,be⟩:=eZ (w.alloc (.cells #[.pointer (some ⟨P,0,none⟩)] 65));have IJ:=bAl be;have MN:Boxed w1 B0 65 (.pointer (some ⟨P,0,none⟩)):=by rw[←be,←c9];exact Boxed.new _ _ _
 have k1:=MN.cell;have br:=hS.below IJ;have m7:w1.cell? ⟨P,7,none⟩=some (.slice (adr ja) jp.length (jp.length+jj.length)):=by
  rw[(hR.hP.of (IJ.block P DK):IsC w1 P _ _).cell];rfl
 have o9:=hF.fn;gi_wp2_with (gi_at_call 130;refine(xV F (n-1) (hF.fn _) cy _ _ _ _).mono ?_;rintro e w' ⟨rfl,rfl⟩);obtain⟨B4,dm⟩:=eZ (w1.heap.size);obtain⟨w4,cn⟩:=eZ (w1.alloc (.cells #[.slice (adr ja) jp.length (jp.length+jj.length)] 69));rw[cn,dm];have Lf:=bAl cn;have I6:=iNw cn dm;have io:w1.heap.size=w.heap.size+1:=by rw[←be];simp
 have yh:w4.heap.size=w1.heap.size+1:=by rw[←cn];simp
 have wv:Bl w w4:=IJ.trans (Lf.mono (by omega));have kq:Boxed w4 B0 65 (.pointer (some ⟨P,0,none⟩)):=(Lf.block _ (by omega)).trans MN;have aw:=hS.below wv;have OD:JrK w4 ρ ja jp jj J J.length:=(hJ.frm (Frm.of_below (S:=fun _=>False) wv) hR.own (fun _ e=>e.elim) (fun _ _ _=>rfl)).toK;have OM:A.c<w.heap.size:=hR.hc.lt;have Tv:A.m<w.heap.size:=hR.hm.lt;have Gx:∀g,ja=some g→g<w.heap.size∧g≠A.c∧g≠A.m:=fun g e=>by
  obtain⟨h1,h2⟩:=hJ.arr g e;exact⟨h1.lt,fun q=>by rw[q,hR.rc]at h2;omega,fun q=>by rw[q,hR.rm]at h2;omega⟩
 have d5:(iS jp).length=J.length:=by rw[oP];exact hJ.len
 clear be cn k1 m7;have IZ:OwnFrom w4.heap.size (fun(pre:List (Array Value)) W=>(∃ρ' A',St W ρ' P A' (eC f (J.drop (J.length-pre.length))) fL∧JrK W ρ' ja jp jj J (J.length-pre.length)∧A'.c=A.c∧A'.m=A.m∧(∀x,ρ' x≠0→ρ x≠0))∧Frm (fun k=>k=A.c∨k=A.m) w4 W∧Boxed W B0 65 (.pointer (some ⟨P,0,none⟩))):=by
  refine fun pre X Y row hs hg jr=>?_;obtain⟨⟨ρ',A',h1,h2,h3,h4,h5⟩,h6,h7⟩:=hs;have AS:∀x,row=some x→w4.heap.size≤x:=fun x e=>(jr x e).1;obtain⟨_,_,_,Pw,_⟩:=id h1;refine⟨⟨ρ',A',h1.own hg fun x e=>⟨by have:=AS x e;rw[h4];omega,(jr x e).2⟩,⟨fun g e=>⟨(h2.arr g e).1.own hg fun r e=>(jr r e).2,(h2.arr g e).2⟩,h2.nil,h2.len,fun i hi=>?_⟩,h3,h4,h5⟩,h6.own hg AS,h7.kept hg fun e=>?_⟩
  ·obtain⟨a1,a2,a3⟩:=h2.row i hi
   refine⟨a1,a2,?_⟩;cases e:(J.getD i jr0).2.2 with
   | none=>rw[e]at a3;exact a3
   | some d=>
    rw[e]at a3;obtain⟨q,a,junk,m1,m2,m3,m4⟩:=a3;exact⟨q,a,junk,m1,m2,m3,m4.own hg fun r e=>(jr r e).2⟩
  ·have:=AS _ e.symm;omega
 refine tX cy nm (gf:=149) (lb:=#[.pointer (some ⟨B4,0,none⟩)]) (vs:=iS jp) (Kp:=KpB B4 ja) (w0:=w4) rfl (o9 _) (enters_of Tryz.func149 (by kernel_rfl) rfl)
  (fun l Jv W hW VQ hY h0=>vZ F (n-1) (o9 _) cy (by omega) l B4 _ ja jp jj (by rw[hJ.len];omega) Jv _ VQ hY W (I6.of (hW.block _ I6.lt)) (fun g e=>(OD.arr g e).1.of (hW.block g (OD.arr g e).1.lt)) (fun e=>(hJ.nil e).1) h0)
  KpB.trans (KpB.put I6.lt (fun g e=>by have:=(Gx g e).1;omega)) (bQ _ _) (fun x hx=>?_)
  (fun pre W=>(∃ρ' A',St W ρ' P A' (eC f (J.drop (J.length-pre.length))) fL∧JrK W ρ' ja jp jj J (J.length-pre.length)∧A'.c=A.c∧A'.m=A.m∧(∀x,ρ' x≠0→ρ x≠0))∧Frm (fun k=>k=A.c∨k=A.m) w4 W∧Boxed W B0 65 (.pointer (some ⟨P,0,none⟩)))
  ?_ ⟨⟨ρ,A,by simpa [eC] using aw.dead,by simpa using OD,rfl,rfl,fun _ e=>e⟩,Frm.refl _ _,kq⟩ ?_ ?_
 ·unfold iS at hx
  obtain⟨i,_,rfl⟩:=List.mem_map.1 hx;rfl
 ·exact IZ
 ·intro l pre x W hi lg
  have CV:pre.length<jp.length:=by
   have:=lg.length_le
   rw[oP]at this;simp at this;omega
  have C9:x=#[.int .i64 ((jp.length-1-pre.length:Nat):Int),aHQ (jp.getD (jp.length-1-pre.length) j0)]:=by
   have h1:=xU jp CV;obtain⟨post,KC⟩:=lg;rw[←KC,List.append_assoc,List.getElem?_append_right (nR _)]at h1;simp at h1;exact h1
  obtain⟨i,Hi⟩:=exH (jp.length-1-pre.length);have Tn:i<J.length:=by rw[←hJ.len,Hi.out];omega
  have gx:J.length-pre.length=i+1:=by rw[←hJ.len,Hi.out];omega
  have AM:J.length -(pre++[x]).length=i:=by rw[lP,List.length_singleton,←hJ.len,Hi.out];omega
  rw[←Hi.out]at C9;obtain⟨⟨xb,xc,xp⟩,od⟩:∃r,jp.getD i j0=r:=⟨_,rfl⟩;obtain⟨⟨b,cnt,nd⟩,IT⟩:∃r,J.getD i jr0=r:=⟨_,rfl⟩;have jy:(b,cnt,nd)∈J:=by
   rw[←IT,gD,gE Tn];exact List.getElem_mem _
  have MM:b<f.cur.length:=ai _ jy;obtain⟨⟨ρ0,A0,g1,g2,g3,g4,g5⟩,g6,g7⟩:=id hi;rw[gx]at g2;obtain⟨r1,r2,-⟩:=g2.row i (by omega);rw[od,IT]at r1 r2;simp only at r1 r2;subst r1;have r2':=r2.symm;subst r2';clear r2;obtain⟨pv,DP⟩:∃pv,eQ xp=.pointer pv:=⟨_,rfl⟩;rw[od]at C9;unfold aHQ at C9;simp only at C9;rw[DP]at C9;subst C9;obtain⟨W',Il⟩:=eZ (W.alloc (.cells #[.int .i64 b,.int .i64 cnt,.pointer pv] 187));obtain⟨V,hV⟩:=eZ (W.heap.size);have GK:w4.heap.size≤V:=by rw[←hV];exact g6.size
  have ES:W.grownBy W' none:=by rw[←Il];exact World.grownBy_alloc _ _ none
  have E1:IsC W' V #[.int .i64 b,.int .i64 cnt,.pointer pv] 187:=by rw[←Il,←hV];exact IsC.new _ _ _
  have am:=IZ _ _ _ none hi ES (fun r e=>by cases e);have lc:KeepsFrom w4.heap.size W W':=⟨ES.size,fun k o _ hk _=>(ES.block k (Array.getElem?_eq_some_iff.1 hk).1 (by simp)).trans hk⟩;have xz:KpB B4 ja W W':=⟨ES.size,ES.block _ (by omega) (by simp),fun g e=>ES.block g (by have:=(Gx g e).1;have:=wv.size;omega) (by simp)⟩;have kf:=aA (aI io (aI yh (aI dm c9)));have HX:=aA (aI lc (aI xz (aI am E1)));have HR:=aA (aI od (aI IT (aI DP (aI gx AM))));clear lc xz am E1 hi g1 g2 g3 g4 g5 g6 g7 ES od IT DP gx AM io yh dm c9;gi_wp2;obtain⟨lc,xz,am,E1⟩:=HX.out;refine⟨lc,xz,fun _ W2=>(fun(pre:List (Array Value)) W=>(∃ρ' A',St W ρ' P A' (eC f (J.drop (J.length-pre.length))) fL∧JrK W ρ' ja jp jj J (J.length-pre.length)∧A'.c=A.c∧A'.m=A.m∧(∀x,ρ' x≠0→ρ x≠0))∧Frm (fun k=>k=A.c∨k=A.m) w4 W∧Boxed W B0 65 (.pointer (some ⟨P,0,none⟩))) pre W2∧IsC W2 V #[.int .i64 b,.int .i64 cnt,.pointer pv] 187,fun _ X Y row hs hg jr=>⟨IZ _ _ _ row hs.1 hg jr,hs.2.own hg fun r e=>(jr r e).2⟩,⟨am,E1⟩,?_⟩;clear lc xz am E1 HX;rintro W2 ⟨⟨⟨ρ1,A1,h1,h2,h3,h4,h5⟩,h6,h7⟩,sn⟩;obtain⟨od,IT,DP,gx,AM⟩:=HR.out;rw[gx]at h1 h2;obtain⟨_,_,r3⟩:=h2.row i (by omega);rw[od,IT]at r3;simp only at r3;obtain⟨_,_,_,it,_⟩:=id h1;have Ct:(eC f (J.drop (i+1))).cur.length=f.cur.length:=aFR _ _;have nc4:W2.cell? ⟨P,4,none⟩=some (.slice (some ⟨A.c,0,none⟩) f.cur.length f.cur.length):=by
   rw[it.hP.cell,←h3,←Ct];rfl
  have ms:=h7.cell;have v0:W2.cell? ⟨V,0,none⟩=some (.int .i64 b):=sn.c rfl;have v1:W2.cell? ⟨V,1,none⟩=some (.int .i64 cnt):=sn.c rfl;obtain⟨nc,Si⟩:=exH (f.cur.length);rw[←Si.out]at nc4;have qu:W2.drew.cell? ⟨B0,0,none⟩=some (.pointer (some ⟨P,0,none⟩))∧W2.drew.cell? ⟨P,4,none⟩=some (.slice (some ⟨A.c,0,none⟩) nc nc)∧W2.drew.cell? ⟨V,0,none⟩=some (.int .i64 b)∧W2.drew.cell? ⟨V,1,none⟩=some (.int .i64 cnt):=⟨ms,nc4,v0,v1⟩;have CR:(b:Int) <(nc:Int):=by rw[Si.out];omega
  have jh:W2.cell? ⟨A.c,b,none⟩=some (.int .i64 (cu (eC f (J.drop (i+1))) b)):=by rw[←h3];exact it.count (by rw[Ct];exact MM)
  have Gt:W2.frozen? ⟨A.c,b,none⟩=false:=by rw[←h3];exact it.hc.frozen b
  obtain⟨u1,u2⟩:=h1.undoC h2 (b:=b) (by rw[Ct];exact MM) cnt;rw[h3]at u1 u2;gi_wp2;refine gI (fun W=>W.cell? ⟨B0,0,none⟩=some (.pointer (some ⟨P,0,none⟩))∧W.cell? ⟨P,4,none⟩=some (.slice (some ⟨A.c,0,none⟩) nc nc)∧W.cell? ⟨V,0,none⟩=some (.int .i64 b)∧W.cell? ⟨V,1,none⟩=some (.int .i64 cnt)) 9 (hF.inRound l) (fun _=>by omega) (by kernel_rfl) ?_ (by kernel_rfl) ?_
  ·rintro⟨a,w,h⟩;exact h
  refine tJ 0 13 (.pointer (some ⟨P,0,none⟩)) rfl qu ?_;simp only[Act.put,sB,sZ,sS];refine tJ 1 14 (.pointer (some ⟨P,0,none⟩)) rfl qu ?_;simp only[Act.put,sB,sZ,sS];refine tJ 2 15 (.pointer (some ⟨P,4,none⟩)) rfl qu ?_;simp only[Act.put,sB,sZ,sS];refine tJ 3 16 (.slice (some ⟨A.c,0,none⟩) nc nc) rfl qu ?_;simp only[Act.put,sB,sZ,sS];refine tJ 4 17 (.pointer (some ⟨V,0,none⟩)) rfl qu ?_;simp only[Act.put,sB,sZ,sS];refine tJ 5 18 (.int .i64 b) rfl qu ?_;simp only[Act.put,sB,sZ,sS];refine tJ 6 19 (.pointer (some ⟨V,1,none⟩)) rfl qu ?_;simp only[Act.put,sB,sZ,sS];refine tJ 7 20 (.int .i64 cnt) rfl qu ?_;simp only[Act.put,sB,sZ,sS];refine oE 8 rfl fun K2 ae=>?_;go_simp;refine ae _ _ (fun _=>qu) ?_;clear ae K2;refine oE 9 rfl fun K2 ae=>?_;go_simp;refine ae _ _ (fun q=>absurd rfl q) ?_;clear ae K2;refine aS (by kernel_rfl) ?_ _;obtain⟨io,yh,dm,c9⟩:=kf.out;have bu:Frm (fun k=>k=A.c) W2 (W2.setCell ⟨A.c,b,none⟩ (.int .i64 cnt)).drew:=(Frm.set (S:=fun k=>k=A.c) W2 (p:=⟨A.c,b,none⟩) rfl _).trans (Frm.drew _ _);have AX:(W2.setCell ⟨A.c,b,none⟩ (.int .i64 cnt)).drew.heap.size=W2.heap.size:=cN (g:=A.c) [_] W2 b;have u3:=u1.below (bQ _ _).drew;have u4:JrK (W2.setCell ⟨A.c,b,none⟩ (.int .i64 cnt)).drew ρ1 ja jp jj J (i+1):=by
   obtain⟨_,_,_,Vc,_⟩:=id u1;exact u2.frm (S:=fun _=>False) (nR _) (Frm.drew _ _) Vc.own (fun _ e=>e.elim) (fun _ _=>rfl)
  have Vg:V≠A.c:=by have:=wv.size;omega
  have E0:IsC (W2.setCell ⟨A.c,b,none⟩ (.int .i64 cnt)).drew V #[.int .i64 b,.int .i64 cnt,.pointer pv] 187:=sn.frm bu Vg;have ko:Boxed (W2.setCell ⟨A.c,b,none⟩ (.int .i64 cnt)).drew B0 65 (.pointer (some ⟨P,0,none⟩)):=(bu.block _ h7.lt (by omega)).trans h7;have LV:=aA (aI io (aI yh (aI dm c9)));clear qu u1 u2 jh Gt nc4 ms v0 v1 io yh dm c9;generalize (W2.setCell ⟨A.c,b,none⟩ (.int .i64 cnt)).drew=W3 at *;have ms:=ko.cell;have v0:W3.cell? ⟨V,0,none⟩=some (.int .i64 b):=E0.c rfl;have v2:W3.cell? ⟨V,2,none⟩=some (.pointer pv):=E0.c rfl;obtain⟨_,_,_,mh,_⟩:=id u3;have p3:W3.cell? ⟨P,3,none⟩=some (.map (some A.m)):=by rw[←h4];exact mh.cells.m3
  have Ds:=u3.below (bQ W3.heap.size W3).drew;have u4d:JrK W3.drew ρ1 ja jp jj J (i+1):=u4.frm (S:=fun _=>False) (nR _) (Frm.drew _ _) mh.own (fun _ e=>e.elim) (fun _ _=>rfl);obtain⟨_,_,_,Ff,_⟩:=id Ds;have qa:=aDG (J:=J) f Tn;rw[IT]at qa;cases nd with
  | none=>
   have Xh:xp=none:=r3;have Hb:pv=none:=by rw[Xh]at DP;simp[eQ]at DP;exact DP.symm
   subst Hb;obtain⟨w5,FC,ng,el⟩:=Ff.hm.del b (by omega) 0;rw[h4]at FC;obtain⟨y1,y2⟩:=Ds.undoD u4d ng el;have HN:Hid ((∃ρ' A',St w5 ρ' P A' (eC f (J.drop i)) fL∧JrK w5 ρ' ja jp jj J i∧A'.c=A.c∧A'.m=A.m∧(∀x,ρ' x≠0→ρ x≠0))):=⟨ρ1,gQ A1 b,by rw[qa];exact y1,y2,h3,h4,h5⟩;have ly:W3.drew.cell? ⟨B0,0,none⟩=some (.pointer (some ⟨P,0,none⟩))∧W3.drew.cell? ⟨P,3,none⟩=some (.map (some A.m))∧W3.drew.cell? ⟨V,0,none⟩=some (.int .i64 b):=⟨ms,p3,v0⟩;clear y1 y2 qa r3 ng u3 u4 Ds u4d mh Ff;have uw:=aA el;clear el;gi_wp2;refine gI (fun W=>W.cell? ⟨B0,0,none⟩=some (.pointer (some ⟨P,0,none⟩))∧W.cell? ⟨P,3,none⟩=some (.map (some A.m))∧W.cell? ⟨V,0,none⟩=some (.int .i64 b)) 6 (hF.inRound l) (fun _=>by omega) (by kernel_rfl) ?_ (by kernel_rfl) ?_
   ·rintro⟨a,w,h⟩;exact h
   ·skip
    refine aU (i:=0) 25 (.pointer (some ⟨P,0,none⟩)) (by kernel_rfl) (by kernel_rfl) rfl (by kernel_rfl) (by kernel_rfl) (by kernel_rfl) (fun _ _ _ h=>h) rfl rfl ly (fun w' hw=>by obtain⟨m1,m2,m3⟩:=hw;go_simp;try rfl) ?_;simp only[Act.put,sB,sZ,sS];refine aU (i:=1) 26 (.pointer (some ⟨P,0,none⟩)) (by kernel_rfl) (by kernel_rfl) rfl (by kernel_rfl) (by kernel_rfl) (by kernel_rfl) (fun _ _ _ h=>h) rfl rfl ly (fun w' hw=>by obtain⟨m1,m2,m3⟩:=hw;go_simp;try rfl) ?_;simp only[Act.put,sB,sZ,sS];refine aU (i:=2) 27 (.pointer (some ⟨P,3,none⟩)) (by kernel_rfl) (by kernel_rfl) rfl (by kernel_rfl) (by kernel_rfl) (by kernel_rfl) (fun _ _ _ h=>h) rfl rfl ly (fun w' hw=>by obtain⟨m1,m2,m3⟩:=hw;go_simp;try rfl) ?_;simp only[Act.put,sB,sZ,sS];refine aU (i:=3) 28 (.map (some A.m)) (by kernel_rfl) (by kernel_rfl) rfl (by kernel_rfl) (by kernel_rfl) (by kernel_rfl) (fun _ _ _ h=>h) rfl rfl ly (fun w' hw=>by obtain⟨m1,m2,m3⟩:=hw;go_simp;try rfl) ?_;simp only[Act.put,sB,sZ,sS];refine aU (i:=4) 29 (.pointer (some ⟨V,0,none⟩)) (by kernel_rfl) (by kernel_rfl) rfl (by kernel_rfl) (by kernel_rfl) (by kernel_rfl) (fun _ _ _ h=>h) rfl rfl ly (fun w' hw=>by obtain⟨m1,m2,m3⟩:=hw;go_simp;try rfl) ?_;simp only[Act.put,sB,sZ,sS];refine aU (i:=5) 30 (.int .i64 b) (by kernel_rfl) (by kernel_rfl) rfl (by kernel_rfl) (by kernel_rfl) (by kernel_rfl) (fun _ _ _ h=>h) rfl rfl ly (fun w' hw=>by obtain⟨m1,m2,m3⟩:=hw;go_simp;try rfl) ?_;simp only[Act.put,sB,sZ,sS];refine oE 6 rfl fun K2 ae=>?_;go_simp;refine ae _ _ (fun q=>absurd rfl q) ?_;clear ae K2;refine aS (by kernel_rfl) ?_ _;obtain⟨io,yh,dm,c9⟩:=LV.out;have el:=uw.out;have il:∀k,k<W2.heap.size→k≠A.c→k≠A.m→w5.heap[k]?=W2.heap[k]?:=fun k hk e1 e2=>(el.block k (by show k<W3.heap.size;rw[AX];exact hk) (by rw[h4];exact e2)).trans (bu.block k hk e1);have CF:Frm (fun k=>k=A.c∨k=A.m) w4 w5:=((h6.trans (bu.wide fun k _ e=>.inl e)).trans (Frm.drew _ _)).trans (el.wide fun k _ e=>.inr (by rw[←h4];exact e));have AY:W2.heap.size≤w5.heap.size:=by rw[←AX];exact el.size
    have Wh:=wv.size;have R0:=h6.size;have et:Boxed w5 B0 65 (.pointer (some ⟨P,0,none⟩)):=(il _ h7.lt (by omega) (by omega)).trans h7;have lc:KeepsFrom w4.heap.size W2 w5:=⟨AY,fun k o hk y8 _=>(il k (Array.getElem?_eq_some_iff.1 y8).1 (by omega) (by omega)).trans y8⟩;have xz:KpB B4 ja W2 w5:=⟨AY,il _ (by omega) (by omega) (by omega),fun g e=>il g (by have:=(Gx g e).1;omega) (Gx g e).2.1 (Gx g e).2.2⟩;have HF:=aA (aI lc (aI xz (aI CF et)));clear lc xz CF et il io yh dm c9 ly;gi_wp2;obtain⟨lc,xz,CF,et⟩:=HF.out;obtain⟨ρ',A',z⟩:=HN.out;exact⟨lc,xz,⟨ρ',A',by rw[HR.out.2.2.2.2];exact z⟩,CF,et⟩
  | some d=>
   obtain⟨qj,aj,junkj,z1,z2,z3,z4⟩:=r3;have Hb:pv=some ⟨qj,0,none⟩:=by rw[z1]at DP;simp[eQ]at DP;exact DP.symm
   subst Hb;have Rd:qj≠A.c:=fun e=>by have e1:=it.rc;rw[h3,←e,z2]at e1;unfold jW at e1;omega
   have Vk:∀x,aj=some x→x≠A.c:=fun x ex e=>by have e1:=it.rc;rw[h3,←e,z3 x ex]at e1;unfold jX at e1;omega
   have q7:aM W3.drew qj d aj junkj:=(z4.frm bu Rd Vk).below (bQ W3.heap.size W3).drew;obtain⟨w5,FC,ng,el⟩:=Ff.hm.put b qj (by omega);rw[h4]at FC;obtain⟨ρ2,y1,y2,y3⟩:=Ds.undoP u4d z2 z3 q7 ng el;have HN:Hid ((∃ρ' A',St w5 ρ' P A' (eC f (J.drop i)) fL∧JrK w5 ρ' ja jp jj J i∧A'.c=A.c∧A'.m=A.m∧(∀x,ρ' x≠0→ρ x≠0))):=⟨ρ2,cV A1 b qj aj,by rw[qa];exact y1,y2,h3,h4,fun x e=>h5 x (y3 x e)⟩;have ly:W3.drew.cell? ⟨B0,0,none⟩=some (.pointer (some ⟨P,0,none⟩))∧W3.drew.cell? ⟨P,3,none⟩=some (.map (some A.m))∧W3.drew.cell? ⟨V,0,none⟩=some (.int .i64 b)∧W3.drew.cell? ⟨V,2,none⟩=some (.pointer (some ⟨qj,0,none⟩)):=⟨ms,p3,v0,v2⟩;clear y1 y2 y3 qa ng u3 u4 Ds u4d mh Ff q7;have uw:=aA el;clear el;gi_wp2;refine gI (fun W=>W.cell? ⟨B0,0,none⟩=some (.pointer (some ⟨P,0,none⟩))∧W.cell? ⟨P,3,none⟩=some (.map (some A.m))∧W.cell? ⟨V,0,none⟩=some (.int .i64 b)∧W.cell? ⟨V,2,none⟩=some (.pointer (some ⟨qj,0,none⟩))) 8 (hF.inRound l) (fun _=>by omega) (by kernel_rfl) ?_ (by kernel_rfl) ?_
   ·rintro⟨a,w,h⟩;exact h
   ·skip
    refine aU (i:=0) 31 (.pointer (some ⟨P,0,none⟩)) (by kernel_rfl) (by kernel_rfl) rfl (by kernel_rfl) (by kernel_rfl) (by kernel_rfl) (fun _ _ _ h=>h) rfl rfl ly (fun w' hw=>by obtain⟨m1,m2,m3,m4⟩:=hw;go_simp;try rfl) ?_;simp only[Act.put,sB,sZ,sS];refine aU (i:=1) 32 (.pointer (some ⟨P,0,none⟩)) (by kernel_rfl) (by kernel_rfl) rfl (by kernel_rfl) (by kernel_rfl) (by kernel_rfl) (fun _ _ _ h=>h) rfl rfl ly (fun w' hw=>by obtain⟨m1,m2,m3,m4⟩:=hw;go_simp;try rfl) ?_;simp only[Act.put,sB,sZ,sS];refine aU (i:=2) 33 (.pointer (some ⟨P,3,none⟩)) (by kernel_rfl) (by kernel_rfl) rfl (by kernel_rfl) (by kernel_rfl) (by kernel_rfl) (fun _ _ _ h=>h) rfl rfl ly (fun w' hw=>by obtain⟨m1,m2,m3,m4⟩:=hw;go_simp;try rfl) ?_;simp only[Act.put,sB,sZ,sS];refine aU (i:=3) 34 (.map (some A.m)) (by kernel_rfl) (by kernel_rfl) rfl (by kernel_rfl) (by kernel_rfl) (by kernel_rfl) (fun _ _ _ h=>h) rfl rfl ly (fun w' hw=>by obtain⟨m1,m2,m3,m4⟩:=hw;go_simp;try rfl) ?_;simp only[Act.put,sB,sZ,sS];refine aU (i:=4) 35 (.pointer (some ⟨V,0,none⟩)) (by kernel_rfl) (by kernel_rfl) rfl (by kernel_rfl) (by kernel_rfl) (by kernel_rfl) (fun _ _ _ h=>h) rfl rfl ly (fun w' hw=>by obtain⟨m1,m2,m3,m4⟩:=hw;go_simp;try rfl) ?_;simp only[Act.put,sB,sZ,sS];refine aU (i:=5) 36 (.int .i64 b) (by kernel_rfl) (by kernel_rfl) rfl (by kernel_rfl) (by kernel_rfl) (by kernel_rfl) (fun _ _ _ h=>h) rfl rfl ly (fun w' hw=>by obtain⟨m1,m2,m3,m4⟩:=hw;go_simp;try rfl) ?_;simp only[Act.put,sB,sZ,sS];refine aU (i:=6) 37 (.pointer (some ⟨V,2,none⟩)) (by kernel_rfl) (by kernel_rfl) rfl (by kernel_rfl) (by kernel_rfl) (by kernel_rfl) (fun _ _ _ h=>h) rfl rfl ly (fun w' hw=>by obtain⟨m1,m2,m3,m4⟩:=hw;go_simp;try rfl) ?_;simp only[Act.put,sB,sZ,sS];refine aU (i:=7) 38 (.pointer (some ⟨qj,0,none⟩)) (by kernel_rfl) (by kernel_rfl) rfl (by kernel_rfl) (by kernel_rfl) (by kernel_rfl) (fun _ _ _ h=>h) rfl rfl ly (fun w' hw=>by obtain⟨m1,m2,m3,m4⟩:=hw;go_simp;try rfl) ?_;simp only[Act.put,sB,sZ,sS];refine oE 8 rfl fun K2 ae=>?_;go_simp;refine ae _ _ (fun q=>absurd rfl q) ?_;clear ae K2;refine aS (by kernel_rfl) ?_ _;obtain⟨io,yh,dm,c9⟩:=LV.out;have el:=uw.out;have il:∀k,k<W2.heap.size→k≠A.c→k≠A.m→w5.heap[k]?=W2.heap[k]?:=fun k hk e1 e2=>(el.block k (by show k<W3.heap.size;rw[AX];exact hk) (by rw[h4];exact e2)).trans (bu.block k hk e1);have CF:Frm (fun k=>k=A.c∨k=A.m) w4 w5:=((h6.trans (bu.wide fun k _ e=>.inl e)).trans (Frm.drew _ _)).trans (el.wide fun k _ e=>.inr (by rw[←h4];exact e));have AY:W2.heap.size≤w5.heap.size:=by rw[←AX];exact el.size
    have Wh:=wv.size;have R0:=h6.size;have et:Boxed w5 B0 65 (.pointer (some ⟨P,0,none⟩)):=(il _ h7.lt (by omega) (by omega)).trans h7;have lc:KeepsFrom w4.heap.size W2 w5:=⟨AY,fun k o hk y8 _=>(il k (Array.getElem?_eq_some_iff.1 y8).1 (by omega) (by omega)).trans y8⟩;have xz:KpB B4 ja W2 w5:=⟨AY,il _ (by omega) (by omega) (by omega),fun g e=>il g (by have:=(Gx g e).1;omega) (Gx g e).2.1 (Gx g e).2.2⟩;have HF:=aA (aI lc (aI xz (aI CF et)));clear lc xz CF et il io yh dm c9 ly;gi_wp2;obtain⟨lc,xz,CF,et⟩:=HF.out;obtain⟨ρ',A',z⟩:=HN.out;exact⟨lc,xz,⟨ρ',A',by rw[HR.out.2.2.2.2];exact z⟩,CF,et⟩
 ·rintro D W hD ⟨⟨ρ',A',h1,h2,h3,h4,h5⟩,h6,h7⟩ hK
  rw[d5,Nat.sub_self,List.drop_zero]at h1;obtain⟨_,_,_,Pw,_⟩:=id h1;have bp:gr≠A.c:=fun e=>by rw[e,hR.rc]at GV;omega
  have AI:gr≠A.m:=fun e=>by rw[e,hR.rm]at GV;omega
  have ES:IsC W gr (cT (rs++rj)) 77:=(bm.of (wv.block gr bm.lt)).frm h6 (fun e=>by rcases e with e | e;exact bp e;exact AI e);have vh:ρ' gr=0:=Nat.eq_zero_of_not_pos fun q=>h5 gr (by omega) GV;obtain⟨q1,q2⟩:=h1.setRoots (w1:=W) (Frm.refl _ _) ES (.inr vh) lq;have ms:=h7.cell;have z0:W.cell? ⟨P,0,none⟩=some (.slice (some ⟨A'.ra,0,none⟩) (eC f J).roots.length ((eC f J).roots.length+A'.rj.length)):=by rw[Pw.hP.cell];rfl
  have zf:=Pw.hP.frozen 0;have VJ:D≠P:=by have:=wv.size;omega
  have CH:(W.setCell ⟨P,0,none⟩ (.slice (some ⟨gr,0,none⟩) rs.length (rs.length+rj.length))).heap[D]?=some (.deferred (some [])):=(aX _ _ VJ).trans hK;have CF:Frm (fun k=>ρ k≠0) w (W.setCell ⟨P,0,none⟩ (.slice (some ⟨gr,0,none⟩) rs.length (rs.length+rj.length))):=by
   refine((Frm.of_below wv).next h6 (fun x _ e=>?_)).trans (Frm.set (S:=fun k=>ρ k≠0) W (p:=⟨P,0,none⟩) (by show ρ P≠0;rw[hR.rP];omega) _);rcases e with e | e
   ·rw[e,hR.rc];omega
   ·rw[e,hR.rm];omega
  have HF:=aA (aI q1 (aI CF CH));have kf:=aA (aI io (aI yh (aI dm c9)));clear q1 q2 CF CH io yh dm c9 aw br OD h2 hJ Kd hS;gi_wp2;obtain⟨q1,CF,CH⟩:=HF.out;obtain⟨io,yh,dm,c9⟩:=kf.out;generalize W.setCell ⟨P,0,none⟩ (.slice (some ⟨gr,0,none⟩) rs.length (rs.length+rj.length))=W5 at *;have Cx:W5.grownBy (W5.putObj D (.deferred none)) (some D):=grownBy_putObj' W5 D _;refine⟨by simp,.inl ⟨_,_,rfl,run_takeDeferred CH,?_⟩⟩;refine⟨.tuple #[],by simp[results,Tryz.f112,go_sem],⟨rfl,oC ρ' gr,_,q1.own Cx fun x e=>?_,CF.own Cx fun x e=>?_,fun x hx e=>?_⟩⟩
  ·cases e;exact⟨by show D≠A'.m;rw[h4];have:=wv.size;omega,_,CH,rfl⟩
  ·cases e;have:=wv.size;omega
  ·unfold oC at e;rw[if_neg hx]at e;exact h5 x e
end Go.Proofs.YtaahkgkdpnnhhaaGreat
namespace Go.Proofs.YtaahkgkdpnnhhaaGreat
open Go.RowKit Go.Shelf Fo
attribute [local go_sem] Oper.semAt_some
theorem aFF(a:Int):wrap64 (wrap64 a+1)=wrap64 (a+1):=by
 simp only[wrap64];omega
def fI(zs ys:List Int):Int:=((frs zs ys zs.length zs.length).length:Int)
theorem wH(F:Fence)(n:Nat)(o9:∀k,F.fn k)(cy:F.round=none)(hn:3≤n)(a a':Option Addr)(c c':Nat)(zs ys:List Int)(hl:ys.length=zs.length)(hz:zs.length≤512)(Aw:8≤zs.length)(w:World)(hv:Nts w (.slice a zs.length c) zs)(nw:Nts w (.slice a' ys.length c') ys):
  CallsIn F n Tryz.prog 113 #[.slice a zs.length c,.slice a' ys.length c'] w fun e W'=>e=.returned (.int .i64 (fI zs ys))∧Bl w W':=by
 have nm:1≤n:=by omega
 have HL:Hid (ys.length=zs.length):=hl;clear hl;refine callsIn_of_wp_marks Tryz.func113 rfl (o9 _) ?_ cy;simp only[Tryz.ntmps113,List.size_toArray,List.length_cons,List.length_nil,Nat.reduceAdd,Nat.reduceSub,Array.replicate_succ,Array.replicate_zero,List.push_toArray,List.append_toArray,List.nil_append,List.cons_append];gi_wp2_with (gi_at_call 131;refine(jB F (n-1) (o9 _) cy _ _ _ ⟨_,_,_,rfl⟩ ⟨_,_,_,rfl⟩).mono ?_;rintro e w' ⟨rfl,rfl⟩);have bR:=Boxed.new w 2 (.int .i64 0);have bS:=Boxed.new (w.alloc (.cells #[.int .i64 0] 2)) 24 (.slice a zs.length c);have bT:=Boxed.new ((w.alloc (.cells #[.int .i64 0] 2)).alloc (.cells #[.slice a zs.length c] 24)) 24 (.slice a' ys.length c');simp only[World.size_alloc]at bS bT;have c9:Bl w (((w.alloc (.cells #[.int .i64 0] 2)).alloc (.cells #[.slice a zs.length c] 24)).alloc (.cells #[.slice a' ys.length c'] 24)):=(((bQ _ w).alloc (nR _) _).alloc (by simp) _).alloc (by simp;omega) _;refine wpIn_rangeFunc_ownF cy nm (gf:=150) (lb:=#[.pointer (some ⟨w.heap.size+1,0,none⟩),.pointer (some ⟨w.heap.size+1+1,0,none⟩)]) rfl (o9 _) (enters_of Tryz.func150 (by kernel_rfl) rfl)
  (mJ F (n-1) (o9 _) cy (by omega) (w.heap.size+1) (w.heap.size+1+1) w.heap.size a a' c c' zs ys HL.out hz Aw _ (by simp) (by simp) (by simp;omega) ((bS.alloc _).cell) bT.cell w hv nw (by omega) c9) KpF.trans (KpF.put (by simp;omega) (by simp) (by simp)) (bQ _ _) (fun _=>rfl)
  (fun pre W=>(W.cell? ⟨w.heap.size,0,none⟩=some (.int .i64 (wrap64 (pre.length:Int)))∧W.frozen? ⟨w.heap.size,0,none⟩=false)∧Bl w W)
  (fun k pre W=>False∧Bl w W)
  (OwnFrom.and (Own.from (fun s A B row hs hg hr=>⟨cell_kept hs.1 hg hr,(frozen_kept hs.1 hg hr).trans hs.2⟩) _) (ownFrom_below (nR _) (by simp;omega)))
  (fun k=>OwnFrom.and (Own.from (fun s A B row hs hg hr=>hs) _) (ownFrom_below (nR _) (by simp;omega)))
  ⟨⟨by(have e0:wrap64 ((([]:List (Blk zs.length)).length:Nat):Int)=0:=(by simp[wrap64]));rw[e0];exact((bR.alloc _).alloc _).cell,((bR.alloc _).alloc _).frozen⟩,c9⟩
  (fun x=>{tmps:=#[.slice a zs.length c,.slice a' ys.length c',undef,undef,.int .i64 0,.pointer (some ⟨w.heap.size,0,none⟩),.slice a zs.length c,.slice a' ys.length c',.func (.func 150) #[] #[.pointer (some ⟨w.heap.size+1,0,none⟩),.pointer (some ⟨w.heap.size+1+1,0,none⟩)],.int .i64 (x.1:Int),undef,undef,undef],defers:=[]}) ?assign ?body ?done ?stop
 case assign=>
  intro l x W K hK;gi_wp2;simpa using hK
 case body=>
  rintro l pre x W ⟨⟨hc,hf⟩,hB⟩ _;have UD:wrap64 (wrap64 (pre.length:Int)+1)=wrap64 (((pre++[x]).length:Nat):Int):=by rw[aFF];simp
  have HW:=aA UD;clear UD;generalize wrap64 (pre.length:Int)=q at *;gi_wp2;refine⟨KeepsOthers.setCell _ _ _,⟨(bQ _ W).setCell (p:=⟨w.heap.size,0,none⟩) (nR _) _,aX _ _ (by show w.heap.size+1≠w.heap.size;omega),aX _ _ (by show w.heap.size+1+1≠w.heap.size;omega)⟩,⟨?_,?_⟩,hB.setCell (p:=⟨w.heap.size,0,none⟩) (nR _) _⟩
  ·rw[World.cell?_setCell_same' _ _ _ (by rw[hc];rfl),HW.out]
  ·rw[World.frozen?_setCell];exact hf
 case done=>
  rintro D xs W hD rfl ⟨⟨hc,hf⟩,hB⟩ hK;have tj:wrap64 (((frs zs ys zs.length zs.length).length:Nat):Int)=fI zs ys:=by
   have:=jS zs ys zs.length zs.length
   unfold fI;simp only[wrap64];omega
  rw[tj]at hc;gi_wp2;refine⟨by simp,.inl ⟨_,_,rfl,run_takeDeferred hK,?_⟩⟩;refine⟨.int .i64 (fI zs ys),?_,rfl,hB.trans (belowK_b (w:=w) (nR _) W D _ _ (by simp at hD;omega) hK rfl rfl)⟩;simp[results,Tryz.f113,go_sem]
 case stop=>
  rintro D k pre W hD ⟨q,hq,lg⟩ ⟨hx,hB⟩ hK;exact hx.elim
theorem tA(w:World)(ρ:Nat→Nat)(P:Nat)(A:Adr)(f:fZ)(J:List aQ)(gr:Nat)(rs rj:List (Int×Int))(hS:St w ρ P A f J)(kz:J.length≤900000)(Bj:f.cur.length≤512)(ai:∀r∈J,r.1<f.cur.length)(bm:IsC w gr (cT (rs++rj)) 77)(GV:ρ gr=0)(lq:rs.length+rj.length≤maxLen):
  Calls Tryz.prog 112 #[.pointer (some ⟨P,0,none⟩),.slice (some ⟨gr,0,none⟩) rs.length (rs.length+rj.length)] w (RsP w ρ P f J gr rs):=
 (callsIn_wide (n:=5)).1 (aBE Fence.wide 5 (mU.wide _) rfl (nR _) w ρ P A f J gr _ rs rj hS kz Bj ai bm GV rfl lq)
theorem aAE(w:World):(Instr.typeAssert (.iface 169 (.agg #[])) 20 169 true).run Tryz.prog w=.ok (.tuple #[.agg #[],.bool true]) w:=by kernel_rfl
structure CtP(w:World)(ρ:Nat→Nat)(P:Nat)(f:fZ)(J:List aQ)(gr:Nat)(rs:List (Int×Int))(cd:Nat)(w':World):Prop where
 ex:∃ρ' A',St w' ρ' P A' {eC f J with roots:=rs} fL∧Frm (fun k=>ρ k≠0∨k=cd) w w'∧∀x,x≠gr→ρ' x≠0→ρ x≠0
 cd:w'.cell? ⟨cd,0,none⟩=some (.int .i64 7)
theorem aAH(cd fb rb:Nat)(older:List PanicEntry)(w:World)(ρ:Nat→Nat)(P:Nat)(A:Adr)(f:fZ)(J:List aQ)(gr:Nat)(rs rj:List (Int×Int))(hS:St w ρ P A f J)(kz:J.length≤900000)(Bj:f.cur.length≤512)(ai:∀r∈J,r.1<f.cur.length)(bm:IsC w gr (cT (rs++rj)) 77)(GV:ρ gr=0)(lq:rs.length+rj.length≤maxLen)
  (te:IsC w cd #[.int .i64 0] 2) (ti:IsC w fb #[.pointer (some ⟨P,0,none⟩)] 65) (fk:IsC w rb #[.slice (some ⟨gr,0,none⟩) rs.length (rs.length+rj.length)] 55) (h0:ρ cd=0∧ρ fb=0∧ρ rb=0):
  CallsD Tryz.prog 111 #[.pointer (some ⟨cd,0,none⟩),.pointer (some ⟨fb,0,none⟩),.pointer (some ⟨rb,0,none⟩)] (.panicking ({v:=.iface 169 (.agg #[]),recovered:=false} :: older)) w fun e u' w'=>
   e=.returned (.tuple #[])∧u'=.panicking ({v:=.iface 169 (.agg #[]),recovered:=true} :: older)∧CtP w ρ P f J gr rs cd w':=by
 refine callsD_of_wpS Tryz.func111 rfl fun c₀ cs hu=>?_;refine wpS_seq ?_;refine wpS_seq ?_;apply wpS_region;simp[wpOpsS,go_sem,recoverD,hu,Tryz.ntmps111,Exit.thenS];refine wpS_of_wp ?_;simp only[Array.replicate_succ,Array.replicate_zero,List.push_toArray,List.setIfInBounds_toArray,List.set_cons_zero,List.set_cons_succ,List.append_toArray,List.nil_append,List.cons_append];obtain⟨w1,be⟩:=eZ (w.alloc (.cells #[] 169));have d9:=bAl be;have JF:=te.of (d9.block _ te.lt);have cc:w1.cell? ⟨cd,0,none⟩=some (.int .i64 0):=JF.c rfl;have cz:=JF.frozen 0;have YW:=aAE;obtain⟨w2,bw⟩:=eZ (w1.setCell ⟨cd,0,none⟩ (.int .i64 7));have du:Frm (fun k=>k=cd) w w2:=by rw[←bw];exact(Frm.of_below d9).trans (Frm.set (S:=fun k=>k=cd) w1 (p:=⟨cd,0,none⟩) rfl _)
 have Bb:IsC w2 cd #[.int .i64 7] 2:=by
  have:=JF.set 0 (.int .i64 7)
  rw[bw]at this;exact this
 go_wp2
 refine wpS_of_wp ?_;have ax:St w2 ρ P A f J:=hS.frm (du.wide fun k _ e=>by rw[e];exact h0.1);have Qt:IsC w2 gr (cT (rs++rj)) 77:=bm.frm du (fun e=>IsC.ne (e▸bm) te (by decide) rfl);have vw:IsC w2 fb #[.pointer (some ⟨P,0,none⟩)] 65:=ti.frm du (fun e=>IsC.ne (e▸ti) te (by decide) rfl);have Rh:IsC w2 rb #[.slice (some ⟨gr,0,none⟩) rs.length (rs.length+rj.length)] 55:=fk.frm du (fun e=>IsC.ne (e▸fk) te (by decide) rfl);have d1:w2.cell? ⟨cd,0,none⟩=some (.int .i64 7):=Bb.c rfl;have d2:w2.cell? ⟨fb,0,none⟩=some (.pointer (some ⟨P,0,none⟩)):=vw.c rfl;have d3:w2.cell? ⟨rb,0,none⟩=some (.slice (some ⟨gr,0,none⟩) rs.length (rs.length+rj.length)):=Rh.c rfl;clear be bw;go_wp2_with fail;refine(tA w2 ρ P A f J gr rs rj ax kz Bj ai Qt GV lq).mono ?_;rintro e w3 ⟨rfl,ρ3,A3,g1,g2,g3⟩;have JG:IsC w3 cd #[.int .i64 7] 2:=Bb.frm g2 (fun e=>e h0.1);have HC:Hid (CtP w ρ P f J gr rs cd w3):=⟨⟨ρ3,A3,g1,(du.wide fun k _ e=>.inr e).trans (g2.wide fun k _ e=>.inl e),g3⟩,JG.c rfl⟩;clear g1 g2 g3;go_wp2;exact⟨rfl,_,rfl,.tuple #[],by simp[results,Tryz.f111,go_sem],rfl,rfl,HC.out⟩
theorem aAG(cd fb rb:Nat)(w:World)(ρ:Nat→Nat)(P:Nat)(A:Adr)(f:fZ)(J:List aQ)(gr:Nat)(rs rj:List (Int×Int))(hS:St w ρ P A f J)(kz:J.length≤900000)(Bj:f.cur.length≤512)(ai:∀r∈J,r.1<f.cur.length)(bm:IsC w gr (cT (rs++rj)) 77)(GV:ρ gr=0)(lq:rs.length+rj.length≤maxLen)
  (te:IsC w cd #[.int .i64 7] 2) (ti:IsC w fb #[.pointer (some ⟨P,0,none⟩)] 65) (fk:IsC w rb #[.slice (some ⟨gr,0,none⟩) rs.length (rs.length+rj.length)] 55) (h0:ρ cd=0∧ρ fb=0∧ρ rb=0):
  CallsD Tryz.prog 111 #[.pointer (some ⟨cd,0,none⟩),.pointer (some ⟨fb,0,none⟩),.pointer (some ⟨rb,0,none⟩)] .returning w fun e u' w'=>
   e=.returned (.tuple #[])∧u'=.returning∧CtP w ρ P f J gr rs cd w':=by
 refine callsD_of_wpS Tryz.func111 rfl fun c₀ cs hu=>?_;refine wpS_seq ?_;refine wpS_seq ?_;apply wpS_region;simp[wpOpsS,go_sem,recoverD,hu,Tryz.ntmps111,Exit.thenS];refine wpS_of_wp ?_;simp only[Array.replicate_succ,Array.replicate_zero,List.push_toArray,List.setIfInBounds_toArray,List.set_cons_zero,List.set_cons_succ,List.append_toArray,List.nil_append,List.cons_append];have d1:w.cell? ⟨cd,0,none⟩=some (.int .i64 7):=te.c rfl;have d2:w.cell? ⟨fb,0,none⟩=some (.pointer (some ⟨P,0,none⟩)):=ti.c rfl;have d3:w.cell? ⟨rb,0,none⟩=some (.slice (some ⟨gr,0,none⟩) rs.length (rs.length+rj.length)):=fk.c rfl;go_wp2;refine wpS_of_wp ?_;go_wp2_with fail;refine(tA w ρ P A f J gr rs rj hS kz Bj ai bm GV lq).mono ?_;rintro e w3 ⟨rfl,ρ3,A3,g1,g2,g3⟩;have JG:IsC w3 cd #[.int .i64 7] 2:=te.frm g2 (fun e=>e h0.1);have HC:Hid (CtP w ρ P f J gr rs cd w3):=⟨⟨ρ3,A3,g1,g2.wide fun k _ e=>.inl e,g3⟩,JG.c rfl⟩;clear g1 g2 g3;go_wp2;exact⟨rfl,_,by cases c₀;simp_all,.tuple #[],by simp[results,Tryz.f111,go_sem],rfl,rfl,HC.out⟩
theorem aFV(cd fb rb:Nat)(w:World)(te:IsC w cd #[.int .i64 0] 2):
  CallsD Tryz.prog 111 #[.pointer (some ⟨cd,0,none⟩),.pointer (some ⟨fb,0,none⟩),.pointer (some ⟨rb,0,none⟩)] .returning w fun e u' w'=>
   e=.returned (.tuple #[])∧u'=.returning∧w'=w:=by
 refine callsD_of_wpS Tryz.func111 rfl fun c₀ cs hu=>?_;refine wpS_seq ?_;refine wpS_seq ?_;apply wpS_region;simp[wpOpsS,go_sem,recoverD,hu,Tryz.ntmps111,Exit.thenS];refine wpS_of_wp ?_;simp only[Array.replicate_succ,Array.replicate_zero,List.push_toArray,List.setIfInBounds_toArray,List.set_cons_zero,List.set_cons_succ,List.append_toArray,List.nil_append,List.cons_append];have d1:w.cell? ⟨cd,0,none⟩=some (.int .i64 0):=te.c rfl;go_wp2;refine wpS_of_wp ?_;go_wp2;exact⟨rfl,_,by cases c₀;simp_all,.tuple #[],by simp[results,Tryz.f111,go_sem],rfl,rfl,rfl⟩
