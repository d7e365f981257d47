import Derived.Test.YtaahkgkdpnnhhaaGreatHq2
set_option maxHeartbeats 9999999
set_option maxRecDepth 99999
set_option linter.all false
namespace Go.Proofs.YtaahkgkdpnnhhaaGreat
open Go.RowKit Go.Shelf Fo
attribute [local go_sem] Oper.semAt_some
def aHO(F:Fence)(n:Nat)(P:Program)(g:Nat)(lb:Array Value)(vs:List Nat)(Kp:World→World→Prop)(w:World):Prop:=
 ∀(l:Nat) (J:List Nat→World→Prop) (W:World),Bl w W→AbidesFrom W.heap.size J→
  (∀(pre:List Nat) (x:Nat) (W1:World),J pre W1→pre++[x] <+: vs→YieldAt F (n-1) P l #[.int .i64 (x:Int)] W1 fun e W'=>e=.returned (.bool true)∧J (pre++[x]) W'∧Kp W1 W')→
  J [] W→CallsIn F n P g (#[.func (.yield l) #[] #[]]++lb) W fun e W'=>(∃v,e=.returned v)∧J vs W'
theorem mC{F:Fence}{n:Nat}{P:Program}{g:Operand}{ps:Array Tmp}{assign body:Code}{Q:Exit→Act→World→Prop}{a:Act}{w:World}
  (hro:F.round=none) (h1:1≤n) {gf:Nat} {lb:Array Value} (hg:a.eval g=.func (.func gf) #[] lb) (hFg:F.fn gf) (eg:∀args w,(callFunc gf args).run P w=.ok (.enter gf args) w)
  {Kp:World→World→Prop} {vs:List Nat} {w0:World} (hseq:aHO F (n-1) P gf lb vs Kp w0)
  (hKt:∀{A B C:World},Kp A B→Kp B C→Kp A C) (hKb:∀(W:World) (l:Nat) (o o':Obj),w.heap.size≤l→W.heap[l]?=some o→o.isCells=false→o.isWalk=false→Kp W (W.putObj l o')) (hb0:Bl w0 w) (hps:ps.size=1)
  (I:List Nat→World→Prop) (hI:OwnFrom w.heap.size I) (h0:I [] w)
  (hround:∀(l:Nat) (pre:List Nat) (x:Nat) (W:World),I pre W→pre++[x] <+: vs→
   assign.wpIn (F.inRound l) (n-1-1) P (Exit.then (fun a' W'=>W'=W∧∀W2,I pre W2→body.wpIn (F.inRound l) (n-1-1) P (ownPostG w.heap.size Kp I (fun _ _ _=>False) (pre++[x]) W2) a' W2) (fun _ _ _=>False)) {tmps:=(ps.zip #[.int .i64 (x:Int)]).foldl (fun t (p,v)=>t.setIfInBounds p v) a.tmps,defers:=[]} W)
  (hdone:∀(D:Nat) (W:World),w.heap.size≤D→I vs W→W.heap[D]?=some (.deferred (some []))→Q .normal {a with defers:={target:=.collected D,args:=#[]} :: a.defers} W):
  (Code.rangeFunc g ps assign body).wpIn F n P Q a w:=by
 refine wpIn_rangeFunc fun fn hfn=>?_;rw[hro];obtain⟨D,hD⟩:=eZ (w.heap.size);obtain⟨R,hR⟩:∃R:LoopState→Option Code→Loop,R=fun st pe=>{state:=st,pending:=pe,fn,tmps:=a.tmps,params:=ps,assign,body,defers:=w.heap.size}:=⟨_,rfl⟩;obtain⟨V,hV⟩:=eZ ((w.alloc (.deferred (some []))).alloc (.loop (R .ready none)));have sz:V.heap.size=D+2:=by rw[←hV,←hD];simp
 have atL:V.heap[D+1]?=some (.loop (R .ready none)):=by
  have:=World.alloc_heap_new (w.alloc (.deferred (some []))) (.loop (R .ready none))
  rw[World.size_alloc,hV,hD]at this;exact this
 have atD:V.heap[D]?=some (.deferred (some [])):=by
  rw[←hV,←hD];exact(Below.heap_alloc _ _ _ (by simp)).trans (World.alloc_heap_new w _)
 have start:I [] V:=by rw[←hV];exact hI.alloc _ (hI.alloc _ h0)
 have old:Bl w0 V:=by
  rw[←hV];exact hb0.trans ((((bQ _ w).alloc (nR _) _).alloc (by simp) _).mono hb0.size)
 refine⟨D+1,[{target:=.collected D,args:=#[]}],V,{target:=.fn (.func gf) lb,args:=#[.func (.yield (D+1)) #[] #[]]},V,gf,#[.func (.yield (D+1)) #[] #[]]++lb,V,?_,?_,?_,?_,fun _=>h1,?_⟩
 ·rw[←hV,←hD,hR];exact run_enterLoop_outer _ _ _ _ _
 ·simp only[resolve,hg];simp[go_sem]
 ·intro f' hf';simp[Target.leads]at hf';subst hf';exact hFg
 ·simp[invoke,go_sem,eg]
 rw[hD]at hI hKb hround hdone;have book:AbidesFrom V.heap.size fun pre W=>I pre W∧W.heap[D+1]?=some (.loop (R .ready none))∧W.heap[D]?=some (.deferred (some [])):=fun s X Y row hs hg' hr=>
  ⟨hI s X Y row hs.1 hg' fun r e=>by obtain⟨hB,o,ho,hw⟩:=hr r e;exact⟨by omega,o,ho,Obj.not_cells_of_walk hw⟩,
   (grownBy_keeps hg' (fun r e=>(hr r e).2) hs.2.1 rfl).trans hs.2.1,(grownBy_keeps hg' (fun r e=>(hr r e).2) hs.2.2 rfl).trans hs.2.2⟩
 refine(hseq (D+1) _ V old book (fun pre x W hJ hpre=>?_) ⟨start,atL,atD⟩).mono ?_
 ·obtain⟨hi,hl,hk⟩:=hJ
  have hlt:D+1<W.heap.size:=(Array.getElem?_eq_some_iff.1 hl).1;have hy:=run_yield (P:=P) (args:=#[.int .i64 (x:Int)]) hl (by rw[hR];exact hps.symm);rw[hR]at hy;refine⟨fn,_,assign,body,hy,roundIn_of_wpIn hfn (wpIn_mono (hround (D+1) pre x W hi hpre) ?_)⟩;clear hy;rintro e a' W' h;cases e with
  | ret=>exact h
  | exit id=>exact h
  | goto t=>exact h
  | panic ch=>exact h
  | outgrown=>exact h
  | normal=>
  obtain⟨rfl,hbody⟩:=h;refine⟨_,run_beginRound hl (by rw[hR]),?_⟩;have b2:(W'.putObj (D+1) (.loop {R .ready none with state:=.busy})).heap[D+1]?=some (.loop {R .ready none with state:=.busy}):=World.putObj_heap_same hlt;have d2:(W'.putObj (D+1) (.loop {R .ready none with state:=.busy})).heap[D]?=some (.deferred (some [])):=(World.putObj_heap_other (by omega)).trans hk;refine wpIn_mono (hbody _ (hI.putObj _ hi (by omega) hl rfl)) ?_;rintro e a3 W3 hp;cases e with
  | normal=>
   obtain⟨k3,p3,i3⟩:=hp;have l3:=k3.same _ _ (by omega) b2 rfl;have hr:=run_endRound (P:=P) none l3;rw[hR]at hr l3;refine⟨_,_,hr,rfl,⟨hI.putObj _ i3 (by omega) l3 rfl,?_,?_⟩,hKt (hKt (hKb _ _ _ _ (by omega) hl rfl rfl) p3) (hKb _ _ _ _ (by omega) l3 rfl rfl)⟩
   ·rw[hR];exact World.putObj_heap_same (Array.getElem?_eq_some_iff.1 l3).1
   ·exact(World.putObj_heap_other (by omega)).trans (k3.same _ _ (nR _) d2 rfl)
  | ret=>exact hp.2.elim
  | exit id=>exact hp.2.elim
  | goto t=>exact hp.2.elim
  | panic ch=>exact hp.elim
  | outgrown=>exact hp.elim
 ·rintro e W2 ⟨⟨v,rfl⟩,hi,hl,hk⟩
  exact⟨none,_,by have:=run_endLoop (P:=P) hl (by rw[hR];simp);rw[hR]at this;exact this,hdone _ _ (nR _) (hI.putObj _ hi (by omega) hl rfl) ((World.putObj_heap_other (by omega)).trans hk)⟩
structure KpC(Bn q:Nat)(a:Option Nat)(W W':World):Prop where
 size:W.heap.size≤W'.heap.size
 bn:W'.heap[Bn]?=W.heap[Bn]?
 q:W'.heap[q]?=W.heap[q]?
 a:∀g,a=some g→W'.heap[g]?=W.heap[g]?
theorem sG(d:Nd):(kids d).length≤d.2.length:=by unfold kids;split<;>simp
theorem KpC.refl(Bn q:Nat)(a:Option Nat)(W:World):KpC Bn q a W W:=⟨nR _,rfl,rfl,fun _ _=>rfl⟩
theorem KpC.trans{Bn q:Nat}{a:Option Nat}{A B C:World}(h:KpC Bn q a A B)(k:KpC Bn q a B C):KpC Bn q a A C:=
 ⟨lT h.size k.size,k.bn.trans h.bn,k.q.trans h.q,fun g e=>(k.a g e).trans (h.a g e)⟩
theorem KpC.put{Bn q N:Nat}{a:Option Nat}(h1:Bn<N)(h2:q<N)(h3:∀g,a=some g→g<N)(W:World)(l:Nat)(o o':Obj)(hl:N≤l)(_ho:W.heap[l]?=some o)(_:o.isCells=false)(_:o.isWalk=false):KpC Bn q a W (W.putObj l o'):=
 ⟨by simp[World.putObj],World.putObj_heap_other (by omega),World.putObj_heap_other (by omega),fun g e=>World.putObj_heap_other (by have:=h3 g e;omega)⟩
theorem KpC.grown{Bn q:Nat}{a:Option Nat}{W W':World}(h:W.grownBy W' none)(h1:Bn<W.heap.size)(h2:q<W.heap.size)(h3:∀g,a=some g→g<W.heap.size):KpC Bn q a W W':=
 ⟨h.size,h.block Bn h1 (by simp),h.block q h2 (by simp),fun g e=>h.block g (h3 g e) (by simp)⟩
theorem aM.kp{W W':World}{Bn q:Nat}{a:Option Nat}{d:Nd}{junk:List E3}(h:aM W q d a junk)(k:KpC Bn q a W W'):aM W' q d a junk:=
 ⟨h.box.of k.q,fun g e=>⟨(h.arr g e).1.of (k.a g e),(h.arr g e).2⟩,h.nil,h.small⟩
theorem xK(F:Fence)(n:Nat)(hg:F.fn 82)(hro:F.round=none)(hn:1≤n)(l Bn q:Nat)(a:Option Nat)(k:Int)(es junk:List E3)(h10:es.length≤10)(hnn:k=2→∀e∈es,0≤e.2.2)(J:List Nat→World→Prop)(B0:Nat)(hJ:AbidesFrom B0 J)
  (hY:∀pre (x:Nat) W,J pre W→pre++[x] <+: kids (k,es)→YieldAt F (n-1) Tryz.prog l #[.int .i64 (x:Int)] W fun e W'=>e=.returned (.bool true)∧J (pre++[x]) W'∧KpC Bn q a W W')
  (W:World) (hB:IsC W Bn #[.pointer (some ⟨q,0,none⟩)] 112) (hN:aM W q (k,es) a junk) (h0:J [] W):
  CallsIn F n Tryz.prog 82 #[.func (.yield l) #[] #[],.pointer (some ⟨Bn,0,none⟩)] W fun e W'=>(∃v,e=.returned v)∧J (kids (k,es)) W':=by
 have hsm:es.length+junk.length≤maxLen:=hN.small;have c0:W.cell? ⟨Bn,0,none⟩=some (.pointer (some ⟨q,0,none⟩)):=hB.c rfl;have c1:W.cell? ⟨q,1,none⟩=some (.slice (adr a) es.length (es.length+junk.length)):=by rw[hN.box.cell];rfl
 refine callsIn_of_wp Tryz.func82 rfl hg ?_ hro;simp only[Tryz.ntmps82,List.size_toArray,List.length_cons,List.length_nil,Nat.reduceAdd,Nat.reduceSub,Array.replicate_succ,Array.replicate_zero,List.push_toArray,List.append_toArray,List.nil_append,List.cons_append];gi_wp2;gi_loopw [10] (fun i wr=>∃m:Nat,m≤es.length∧i=.int .i64 m∧J ((kids (k,es)).take m) wr∧KpC Bn q a W wr) (fun i _=>es.length -(intOf i).toNat)
 case atStart=>exact⟨0,Nat.zero_le _,rfl,by simpa using h0,KpC.refl _ _ _ _⟩
 case round=>
  obtain⟨m,hm,rfl,hJs,hk⟩:=hrel;have hB':IsC wr Bn #[.pointer (some ⟨q,0,none⟩)] 112:=hB.of hk.bn;have hN':aM wr q (k,es) a junk:=hN.kp hk;have d0:wr.cell? ⟨Bn,0,none⟩=some (.pointer (some ⟨q,0,none⟩)):=hB'.c rfl;have d1:wr.cell? ⟨q,0,none⟩=some (.int .i64 k):=by rw[hN'.box.cell];rfl
  by_cases hlt:m<es.length
  ·obtain⟨g,hga,hgI,hgq⟩:=hN'.some (by simp;omega)
   subst hga;have hxs:m <(es++junk).length:=by simp;omega
   obtain⟨e1,e2,e3⟩:=bH hgI hxs;have hgd:(es++junk).getD m e0=es.getD m e0:=by rw[gD,List.getElem?_append_left hlt,←gD]
   simp only at e1 e2 e3
   rw[hgd]at e1 e2 e3;have HX:Hid (m<es.length∧(es.getD m e0).2.2=(es.getD m e0).2.2):=⟨hlt,rfl⟩;obtain⟨⟨s1,s2,x⟩,hek⟩:∃ek,es.getD m e0=ek:=⟨_,rfl⟩;rw[hek]at e1 e2 e3;have HK:Hid (es.getD m e0=(s1,s2,x)):=hek;have hi:(m:Int) <(es.length:Int):=by omega
   have hBl:Bn<wr.heap.size:=hB'.lt;have hql:q<wr.heap.size:=hN'.box.lt;have hgl:g<wr.heap.size:=hgI.lt;have hgr:wr.grownBy (wr.alloc (.cells #[.string s1,.string s2,.int .i64 x] 110)) none:=World.grownBy_alloc _ _ none;have HJ1:Hid (J ((kids (k,es)).take m) (wr.alloc (.cells #[.string s1,.string s2,.int .i64 x] 110))):=hJ _ _ _ none hJs hgr (fun r e=>by cases e);have HK1:Hid (KpC Bn q (some g) wr (wr.alloc (.cells #[.string s1,.string s2,.int .i64 x] 110))):=KpC.grown hgr hBl hql (fun g' e=>by cases e;exact hgl);clear c0 c1 hgd hek hgr hJs;simp only[adr,Option.map_some]at *;by_cases hk2:k=2
   ·subst hk2
    have hem:(s1,s2,x)∈es:=by rw[←HK.out,gD,gE hlt];exact List.getElem_mem _
    obtain⟨y,rfl⟩:∃y:Nat,x=(y:Int):=⟨x.toNat,by have:=hnn rfl _ hem;simp only at this;omega⟩;have HT:Hid ((kids (2,es)).take m++[y]=(kids (2,es)).take (m+1)):=by
     have hx:(kids (2,es))[m]?=some y:=by
      have:=HK.out
      rw[gD,gE hlt]at this;simp only[Option.getD_some]at this;simp[kids,gE hlt,this,ch]
     show _=_
     rw[List.take_add_one,hx];rfl
    obtain⟨fn,tmps,assign,body,hy,hR⟩:=hY _ y _ HJ1.out (by rw[HT.out];exact List.take_prefix _ _);clear hY;have HB:=aA hk;clear hk;gi_wp2;refine hR.mono ?_;rintro e W3 ⟨rfl,hJ3,hk3⟩;rw[HT.out]at hJ3;clear d0 d1 e1 e2 e3 hy hR;gi_wp2;go_roundw
    case rel=>exact⟨m+1,by omega,by go_num,hJ3,(HB.out.trans HK1.out).trans hk3⟩
    case measure=>simp[intOf];omega
   ·have hk2':(k == 2)=false:=by simpa using hk2
    have HT:Hid ((kids (k,es)).take (m+1)=(kids (k,es)).take m):=by
     show _=_
     simp[kids,hk2]
    clear hY;gi_wp2;refine⟨fun _ h=>(by cases h),?_⟩;gi_wp2;go_roundw
    case rel=>exact⟨m+1,by omega,by go_num,by rw[HT.out];exact HJ1.out,hk.trans HK1.out⟩
    case measure=>simp[intOf];omega
  ·obtain rfl:m=es.length:=by omega
   have HT:Hid ((kids (k,es)).take es.length=kids (k,es)):=List.take_of_length_le (sG (k,es));gi_wp2;go_end0;exact⟨⟨_,rfl⟩,by rw[←HT.out];exact hJs⟩
theorem pW(F:Fence)(n:Nat)(hg:F.fn 59)(hro:F.round=none)(p:Addr)(w:World):
  CallsIn F n Tryz.prog 59 #[.pointer (some p)] w fun e w'=>e=.returned (.func (.func 82) #[] #[.pointer (some ⟨w.heap.size,0,none⟩)])∧w'=w.alloc (.cells #[.pointer (some p)] 112):=by
 refine callsIn_of_wp Tryz.func59 rfl hg ?_ hro;simp only[Tryz.ntmps59,List.size_toArray,List.length_cons,List.length_nil,Nat.reduceAdd,Nat.reduceSub,Array.replicate_succ,Array.replicate_zero,List.push_toArray,List.append_toArray,List.nil_append,List.cons_append];gi_wp2;go_ret;exact⟨rfl,rfl⟩
theorem nE(F:Fence)(n:Nat)(hg:F.fn 82)(hro:F.round=none)(hn:1≤n)(Bn q:Nat)(d:Nd)(a:Option Nat)(junk:List E3)(h10:d.2.length≤10)(hnn:d.1=2→∀e∈d.2,0≤e.2.2)(w:World)
  (hB:IsC w Bn #[.pointer (some ⟨q,0,none⟩)] 112) (hN:aM w q d a junk):
  aHO F n Tryz.prog 82 #[.pointer (some ⟨Bn,0,none⟩)] (kids d) (KpC Bn q a) w:=fun l J W hW hJ hY h0=>
 xK F n hg hro hn l Bn q a d.1 d.2 junk h10 hnn J _ hJ hY W (hB.of (hW.block _ hB.lt)) (hN.below hW) h0
attribute [local go_sem] Oper.semAt_some
variable {w w' : World} {ρ : Nat → Nat} {P : Nat} {A : Adr} {f : fZ} {J : List aR}
theorem IsC.own{g:Nat}{cs:Array Value}{t:TypeId}{row:Option Nat}(h:IsC w g cs t)(hg:w.grownBy w' row)(hr:∀r,row=some r→∃o:Obj,w.heap[r]?=some o∧o.isCells=false):IsC w' g cs t:=by
 refine h.of (hg.block g h.lt fun e=>?_);obtain⟨o,ho,hc⟩:=hr g e.symm;rw[show w.heap[g]?=_ from h]at ho;cases ho;cases hc
theorem aM.own{q:Nat}{d:Nd}{a:Option Nat}{junk:List E3}{row:Option Nat}(h:aM w q d a junk)(hg:w.grownBy w' row)(hr:∀r,row=Option.some r→∃o:Obj,w.heap[r]?=Option.some o∧o.isCells=false):aM w' q d a junk:=
 ⟨h.box.own hg hr,fun g e=>⟨(h.arr g e).1.own hg hr,(h.arr g e).2⟩,h.nil,h.small⟩
theorem St.own{row:Option Nat}(h:St w ρ P A f J)(hg:w.grownBy w' row)(hr:∀r,row=some r→r≠A.m∧∃o:Obj,w.heap[r]?=some o∧o.isCells=false):St w' ρ P A f J:=by
 obtain⟨ja,jp,jj,h1,h2⟩:=h;have hr2:∀r,row=some r→∃o:Obj,w.heap[r]?=some o∧o.isCells=false:=fun r e=>(hr r e).2;refine⟨ja,jp,jj,⟨fun k hk=>lL (h1.own k hk) hg.size,h1.hP.own hg hr2,h1.rP,h1.hr.own hg hr2,h1.rr,h1.hm.of (hg.block _ h1.hm.lt fun e=>(hr _ e.symm).1 rfl),h1.rm,h1.hc.own hg hr2,h1.rc,h1.hd.own hg hr2,h1.rd,fun b d hb=>?_,h1.no,h1.rs,h1.ds⟩,fun hl=>⟨fun g e=>⟨((h2 hl).arr g e).1.own hg hr2,((h2 hl).arr g e).2⟩,(h2 hl).nil,(h2 hl).small,(h2 hl).len,fun i hi=>?_⟩⟩
 ·obtain⟨q,k1,k2,k3,j,k4⟩:=h1.nd b d hb
  exact⟨q,k1,k2,k3,j,k4.own hg hr2⟩
 ·obtain⟨k1,k2,k3⟩:=(h2 hl).row i hi
  refine⟨k1,k2,?_⟩;cases e:(J.getD i jr0).2.2 with
  | none=>rw[e]at k3;exact k3
  | some d=>
   rw[e]at k3;obtain⟨q,a,junk,m1,m2,m3,m4⟩:=k3;exact⟨q,a,junk,m1,m2,m3,m4.own hg hr2⟩
theorem Mv.own{X:Nat→Prop}{w0:World}{ρ0:Nat→Nat}{row:Option Nat}(h:Mv X w0 ρ0 w ρ)(hg:w.grownBy w' row)(hr:∀r,row=some r→w0.heap.size≤r):Mv X w0 ρ0 w' ρ:=
 ⟨⟨hg.os.trans h.frm.os,hg.tape.trans h.frm.tape,hg.output.trans h.frm.output,lT h.frm.size hg.size,fun k hk hn=>(hg.block k (lL hk h.frm.size) fun e=>by have:=hr k e.symm;omega).trans (h.frm.block k hk hn)⟩,h.rol⟩
def gX(f:fZ)(b:Nat)(ks:List Nat):fZ:={f with cur:=iM (f.cur.set b (cu f b-1)) ks}
theorem aAI(ks:List Nat)(k:Nat):∀c:List Int,iM c (ks++[k])=(iM c ks).set k ((iM c ks).getD k 0+1):=by
 induction ks with
 | nil=>intro c;rfl
 | cons a ks ih=>intro c;exact ih _
theorem oT(f:fZ)(b:Nat)(ks:List Nat)(k:Nat):gX f b (ks++[k])=setC (gX f b ks) k (cu (gX f b ks) k+1):=by
 unfold gX setC cu;simp only[aAI]
theorem yQ(f:fZ)(b:Nat)(ks:List Nat):(gX f b ks).cur.length=f.cur.length:=by simp[gX,mL]
theorem aGE(f:fZ)(b:Nat):gX f b []=setC f b (cu f b-1):=rfl
theorem Sz.mid{K:Int}{f:fZ}(h:Sz K f){b:Nat}(hb:1≤cu f b):∀ks:List Nat,Sz (K+ks.length) (gX f b ks):=by
 intro ks;have key:∀l:List Nat,Sz (K+l.reverse.length) (gX f b l.reverse):=fun l=>by
  induction l with
  | nil=>rw[List.reverse_nil,aGE];exact(h.setC b (by omega) (by have:=h.cb b;omega)).up (by simp)
  | cons a l ih=>
   rw[List.reverse_cons,oT];have:=ih.cb a;refine(ih.up ?_).setC a (by omega) (by simp only[lP,List.length_cons,List.length_nil];omega);simp only[lP,List.length_cons,List.length_nil];omega
 simpa using key ks.reverse
theorem aDP{f:fZ}{b:Nat}{d:Nd}(h1:cu f b≠1)(hd:f.nodes b=some d):letGo f b=gX f b (kids d):=by
 unfold letGo;rw[if_neg h1,hd];rfl
theorem aHV{K:Int}(F:Fence)(n:Nat)(hW:∀{f:FuncId} {args:Array Value} {w:World} {R:Ending→World→Prop} {m:Nat},Calls Tryz.prog f args w R→CallsIn F m Tryz.prog f args w R)(hfn:∀k,F.fn k)(hro:F.round=none)(hn:5≤n)
  (w:World) (ρ:Nat→Nat) (P:Nat) (A:Adr) (f:fZ) (J:List aR) (b:Nat) (d:Nd) (h:St w ρ P A f J) (hz:Sz K f) (hK:K≤900000) (hJl:J.length≤800000) (hb:f.nodes b=some d) (hc1:1≤cu f b) (hkid:∀c∈kids d,c<f.cur.length) (hnn:d.1=2→∀e∈d.2,0≤e.2.2):
  CallsIn F n Tryz.prog 135 #[.pointer (some ⟨P,0,none⟩),.int .i64 b] w fun e w'=>e=.returned (.tuple #[])∧∃ρ' J',St w' ρ' P (if cu f b=1 then gO A b else A) (letGo f b) J'∧Mv (fun _=>False) w ρ w' ρ'∧JS 11 f J (letGo f b) J'∧Sz (K+10) (letGo f b):=by
 have hn1:1≤n:=by omega
 have hbl:b<f.cur.length:=hz.lt b d hb;have hbi:(b:Int) <(f.cur.length:Int):=by omega
 have h10:d.2.length≤10:=hz.ent b d hb;obtain⟨ja,jp,jj,hR,hJ⟩:=id h;obtain⟨m3,m4,m5,m7⟩:=hR.cells;have hcc:=hR.count hbl;have hPl:=hR.hP.lt;have hcl:=hR.hc.lt;refine callsIn_of_wp_marks Tryz.func135 rfl (hfn _) ?_ hro;simp only[Tryz.ntmps135,List.size_toArray,List.length_cons,List.length_nil,Nat.reduceAdd,Nat.reduceSub,Array.replicate_succ,Array.replicate_zero,List.push_toArray,List.append_toArray,List.nil_append,List.cons_append];have hB1:Bl w (w.alloc (.cells #[.pointer (some ⟨P,0,none⟩)] 65)):=(bQ _ w).alloc (nR _) _;have hS1:=h.below hB1;have hR1:=Boxed.new w 65 (.pointer (some ⟨P,0,none⟩));have hs1:(w.alloc (.cells #[.pointer (some ⟨P,0,none⟩)] 65)).heap.size=w.heap.size+1:=by simp
 by_cases hc:cu f b=1
 ·have hL:letGo f b=freeB f b:=by unfold letGo;rw[if_pos hc]
  rw[if_pos hc,hL];rw[hc]at hcc;gi_wp2_with fail;refine(hW (aIN _ ρ P A f J b hS1 hz (by omega) hbl)).mono ?_;rintro e w2 ⟨rfl,ρ2,hS2,hM2⟩;gi_wp2;refine⟨.tuple #[],by simp[results,Tryz.f135,go_sem],rfl,ρ2,_,hS2,(Mv.of_below hB1).trans hM2 (fun _ _ e=>e),(JS.save hbl).trans (JS.freeB Tch.saved) |>.up (by omega),?_⟩;exact((hz.setC b (v:=0) (by omega) (by have:=hz.cb b;omega)).noN b).up (by omega)
 ·rw[if_neg hc,aDP hc hb]
  gi_wp2_with fail
  refine(hW (lO _ ρ P A f J b hS1 hz hbl (by omega))).mono ?_;rintro e w2 ⟨rfl,ρ2,hS2,hM2,hko,-⟩;obtain⟨ja2,jp2,jj2,hR2,hJ2⟩:=id hS2;obtain⟨n3,n4,n5,n7⟩:=hR2.cells;have hcc2:=hR2.count hbl;have hfz2:w2.frozen? ⟨A.c,b,none⟩=false:=hR2.hc.frozen b;have hbx2:Boxed w2 w.heap.size 65 (.pointer (some ⟨P,0,none⟩)):=(hM2.frm.block _ hR1.lt (fun e=>e.elim (fun e=>e (Nat.eq_zero_of_not_pos fun q=>absurd (hR.own _ (by omega)) (Nat.lt_irrefl _))) (fun e=>e))).trans hR1;have hbc2:=hbx2.cell;obtain⟨hS3,hV3⟩:=hS2.setC (b:=b) hbl (cu f b-1);obtain⟨ja3,jp3,jj3,hR3,hJ3⟩:=id hS3;have hcb:=hz.cb b;have hwr:IntKind.i64.wrap (cu f b-1)=cu f b-1:=IntWalk.i64_in _ ⟨by omega,by omega⟩;obtain⟨q,hφ,hρq,hρa,junk,hN⟩:=hR3.nd b d hb;have hlk:=hR3.hm.lookup b (by have:=hz.n512;omega);rw[hφ]at hlk;have o3:(w2.setCell ⟨A.c,b,none⟩ (.int .i64 (cu f b-1))).cell? ⟨P,3,none⟩=some (.map (some A.m)):=hR3.cells.m3;have hne:w.heap.size≠A.c:=by omega
  have hbx3:Boxed (w2.setCell ⟨A.c,b,none⟩ (.int .i64 (cu f b-1))) w.heap.size 65 (.pointer (some ⟨P,0,none⟩)):=(bB _ _ hne).trans hbx2;have hbc3:=hbx3.cell;generalize hW3:w2.setCell ⟨A.c,b,none⟩ (.int .i64 (cu f b-1))=w3 at *;simp only[eY,Option.map_some]at hlk;gi_wp2_with (gi_at_call 59;refine(pW F (n-1) (hfn _) hro _ _).mono ?_;rintro e w' ⟨rfl,rfl⟩);have hw2s:w.heap.size+1≤w2.heap.size:=by have:=hM2.frm.size;omega
  have hw3s:w3.heap.size=w2.heap.size:=by rw[←hW3];exact dJ (g:=A.c) [_] w2 b
  have hρs:ρ2 w.heap.size=0:=by rw[hM2.rol _ (by omega) (fun e=>e)];exact Nat.eq_zero_of_not_pos fun q=>absurd (hR.own _ (by omega)) (Nat.lt_irrefl _)
  have hρn:ρ2 w3.heap.size=0:=Nat.eq_zero_of_not_pos fun q=>absurd (hR3.own _ (by omega)) (Nat.lt_irrefl _);have hM3:Mv (fun _=>False) w ρ w3 ρ2:=((Mv.of_below hB1).trans hM2 (fun _ _ e=>e)).trans hV3 (fun _ _ e=>e);have hJS3:JS 1 f J (setC f b (cu f b-1)) (J++[(b,cu f b,f.nodes b)]):=(JS.save hbl).trans (JS.setC _ Tch.saved);have hB4:Bl w3 (w3.alloc (.cells #[.pointer (some ⟨q,0,none⟩)] 112)):=(bQ _ w3).alloc (nR _) _;have hS4:=hS3.below hB4;have hN4:=hN.below hB4;have hbx4:Boxed (w3.alloc (.cells #[.pointer (some ⟨q,0,none⟩)] 112)) w.heap.size 65 (.pointer (some ⟨P,0,none⟩)):=hbx3.alloc _;have hbn4:IsC (w3.alloc (.cells #[.pointer (some ⟨q,0,none⟩)] 112)) w3.heap.size #[.pointer (some ⟨q,0,none⟩)] 112:=IsC.new _ _ _;have hM4:Mv (fun _=>False) w ρ (w3.alloc (.cells #[.pointer (some ⟨q,0,none⟩)] 112)) ρ2:=hM3.trans (Mv.of_below hB4) (fun _ _ e=>e);have hsz4:(w3.alloc (.cells #[.pointer (some ⟨q,0,none⟩)] 112)).heap.size=w3.heap.size+1:=by simp
  have hmlt:A.m<w3.heap.size:=hR3.hm.lt;clear hlk o3 hbc3 hbc2 hfz2 hcc2 n3 n4 n5 n7 hR2 hJ2 hN hbx3 hbx2 hS3 hJ3 hM3 hB4 hV3 hM2 hS2 hko;generalize hW4:w3.alloc (.cells #[.pointer (some ⟨q,0,none⟩)] 112)=w4 at *;have hql:q<w4.heap.size:=hN4.box.lt;refine mC hro hn1 (gf:=82) (lb:=#[.pointer (some ⟨w3.heap.size,0,none⟩)]) rfl (hfn _) (enters_of Tryz.func82 (by kernel_rfl) rfl)
   (nE F (n-1) (hfn _) hro (by omega) w3.heap.size q d (A.α b) junk h10 hnn w4 hbn4 hN4) KpC.trans (KpC.put hbn4.lt hql (fun g e=>(hN4.arr g e).1.lt)) (bQ _ _) rfl
   (fun pre W=>(∃ρ1 J1,St W ρ1 P A (gX f b pre) J1∧Mv (fun _=>False) w4 ρ2 W ρ1∧JS (1+pre.length) f J (gX f b pre) J1)∧Boxed W w.heap.size 65 (.pointer (some ⟨P,0,none⟩)))
   ?_ ⟨⟨ρ2,_,hS4,Mv.refl _ _ _,hJS3⟩,hbx4⟩ ?_ ?_
  ·refine OwnFrom.and (fun pre X Y row hs hg hr=>?_) ((boxed_own _ _ _).from _)
   obtain⟨ρ1,J1,h1,h2,h3⟩:=hs;exact⟨ρ1,J1,h1.own hg fun r e=>⟨by have:=(hr r e).1;omega,(hr r e).2⟩,h2.own hg fun r e=>(hr r e).1,h3⟩
  ·intro l pre x W hi hpre
   gi_wp2
   refine⟨trivial,?_⟩;clear hi;rintro W ⟨⟨ρ1,J1,h1,h2,h3⟩,hbx⟩;have hxm:x∈kids d:=hpre.subset (by simp);have hxl:x<f.cur.length:=hkid x hxm;have hpl:pre.length+1≤10:=by have:=hpre.length_le;have:=sG d;simp at *;omega
   have hzm:Sz (K+pre.length) (gX f b pre):=hz.mid hc1 pre;have hxl':x <(gX f b pre).cur.length:=by rw[yQ];exact hxl
   have hbc:=hbx.cell;gi_wp2_with fail;refine⟨fun _=>by omega,(CallsIn.inRound l (hW (lO _ ρ1 P A (gX f b pre) J1 x h1 hzm hxl' (by have:=h3.len;omega)))).mono ?_⟩;rintro e W2 ⟨rfl,ρ3,hS5,hM5,hko,hfr⟩;obtain⟨ja5,jp5,jj5,hR5,hJ5⟩:=id hS5;obtain⟨n3,n4,n5,n7⟩:=hR5.cells;rw[yQ]at n4;have hcc5:=hR5.count hxl';have hfz5:W2.frozen? ⟨A.c,x,none⟩=false:=hR5.hc.frozen x;have hro1:∀k,k<w4.heap.size→ρ1 k=ρ2 k:=fun k hk=>h2.rol k hk fun e=>e;have hrs1:ρ1 w.heap.size=0:=by rw[hro1 _ (by omega)];exact hρs
   have hbx5:Boxed W2 w.heap.size 65 (.pointer (some ⟨P,0,none⟩)):=(hfr.block _ hbx.lt (by rw[hrs1];omega)).trans hbx;have hbc5:=hbx5.cell;have hxi:(x:Int) <(f.cur.length:Int):=by omega
   have hcbx:=hzm.cb x;have hwr:IntKind.i64.wrap (cu (gX f b pre) x+1)=cu (gX f b pre) x+1:=IntWalk.i64_in _ ⟨by omega,by omega⟩;obtain⟨hS6,hV6⟩:=hS5.setC (b:=x) hxl' (cu (gX f b pre) x+1);rw[←oT]at hS6;have hJS6:JS (1+pre.length+1+0) f J (gX f b (pre++[x])) (J1++[(x,cu (gX f b pre) x,(gX f b pre).nodes x)]):=by
    rw[oT];exact(h3.trans (JS.save hxl')).trans (JS.setC _ Tch.saved)
   have hkp:KpC w3.heap.size q (A.α b) W (W2.setCell ⟨A.c,x,none⟩ (.int .i64 (cu (gX f b pre) x+1))):=by
    have hcr:ρ1 A.c=4:=by obtain⟨_,_,_,hh,_⟩:=h1;exact hh.rc
    have hk:∀k,k<w4.heap.size→ρ2 k≠1→ρ2 k≠6→ρ2 k≠4→(W2.setCell ⟨A.c,x,none⟩ (.int .i64 (cu (gX f b pre) x+1))).heap[k]?=W.heap[k]?:=fun k hk e1 e2 e3=>by
     rw[bB W2 _ (fun e=>e3 (by rw[←hro1 k hk,e,hcr])),hfr.block k (lL hk h2.frm.size) (by rw[hro1 k hk];omega)]
    refine⟨lT hfr.size (Nat.le_of_eq (dJ (g:=A.c) [_] W2 x).symm),hk _ hbn4.lt (by omega) (by omega) (by omega),hk q hql ?_ ?_ ?_,fun g e=>hk g (hN4.arr g e).1.lt ?_ ?_ ?_⟩
    ·rw[hρq];unfold cE;omega
    ·rw[hρq];unfold cE;omega
    ·rw[hρq];unfold cE;omega
    ·rw[hρa g e];unfold cC;omega
    ·rw[hρa g e];unfold cC;omega
    ·rw[hρa g e];unfold cC;omega
   have hbx6:Boxed (W2.setCell ⟨A.c,x,none⟩ (.int .i64 (cu (gX f b pre) x+1))) w.heap.size 65 (.pointer (some ⟨P,0,none⟩)):=(bB _ _ hne).trans hbx5;have hM6:=(h2.trans hM5 (fun _ _ e=>e)).trans hV6 (fun _ _ e=>e);have HF:=aA (aI hS6 (aI hJS6 (aI hkp (aI hbx6 hM6))));clear hS6 hJS6 hkp hbx6 hM6 hV6 h1 h2 h3 hS5 hM5 hR5 hJ5 hbx hbx5;gi_wp2;obtain⟨hS6,hJS6,hkp,hbx6,hM6⟩:=HF.out;exact⟨(hko.trans (KeepsOthers.setCell _ _ _)).from _,hkp,⟨ρ3,_,hS6,hM6,hJS6.up (by simp only[lP,List.length_cons,List.length_nil];omega)⟩,hbx6⟩
  ·rintro D W hD ⟨⟨ρ1,J1,h1,h2,h3⟩,hbx⟩ hK
   gi_wp2
   have hgr:W.grownBy (W.putObj D (.deferred none)) (some D):=grownBy_putObj' W D _;refine⟨by simp,.inl ⟨_,_,rfl,run_takeDeferred hK,?_⟩⟩;have hkl:=sG d;refine⟨.tuple #[],by simp[results,Tryz.f135,go_sem],rfl,ρ1,J1,h1.own hgr fun r e=>?_,?_,h3.up (by omega),(hz.mid hc1 (kids d)).up (by omega)⟩
   ·cases e;exact⟨by omega,_,hK,rfl⟩
   ·exact(hM4.trans h2 (fun _ _ e=>e)).own hgr fun r e=>by cases e;have:=hM4.frm.size;omega
theorem oG{K:Int}(w:World)(ρ:Nat→Nat)(P:Nat)(A:Adr)(f:fZ)(J:List aR)(b:Nat)(d:Nd)(h:St w ρ P A f J)(hz:Sz K f)(hK:K≤900000)(hJl:J.length≤800000)(hb:f.nodes b=some d)(hc1:1≤cu f b)(hkid:∀c∈kids d,c<f.cur.length)(hnn:d.1=2→∀e∈d.2,0≤e.2.2):
  Calls Tryz.prog 135 #[.pointer (some ⟨P,0,none⟩),.int .i64 b] w fun e w'=>e=.returned (.tuple #[])∧∃ρ' J',St w' ρ' P (if cu f b=1 then gO A b else A) (letGo f b) J'∧Mv (fun _=>False) w ρ w' ρ'∧JS 11 f J (letGo f b) J'∧Sz (K+10) (letGo f b):=
 (callsIn_wide (n:=5)).1 (aHV Fence.wide 5 (fun h=>callsIn_wide.2 h) (fun _=>trivial) rfl (nR _) w ρ P A f J b d h hz hK hJl hb hc1 hkid hnn)
end Go.Proofs.YtaahkgkdpnnhhaaGreat
namespace Go.Proofs.YtaahkgkdpnnhhaaGreat
open Go.RowKit Fo
theorem aEV:∀(es:List E3) (i j:Nat) (e':E3) (v:Value),i<es.length→j<3→aJ e'=(aJ (es.getD i e0)).set j v→(bX es).setIfInBounds (i*3+j) v=bX (es.set i e'):=by
 have key:∀(es:List E3) (i j:Nat) (e':E3) (v:Value),i<es.length→j<3→aJ e'=(aJ (es.getD i e0)).set j v→(es.flatMap aJ).set (i*3+j) v=(es.set i e').flatMap aJ:=by
  intro es;induction es with
  | nil=>intro i j e' v hi;simp at hi
  | cons e es ih=>
   intro i j e' v hi hj he;have l3:(aJ e).length=3:=rfl;cases i with
   | zero=>
    simp only[List.getD_cons_zero]at he;simp only[List.flatMap_cons,List.set_cons_zero,Nat.zero_mul,Nat.zero_add];rw[List.set_append_left _ _ (by rw[l3];exact hj),he]
   | succ i=>
    simp only[List.getD_cons_succ]at he;simp only[List.flatMap_cons,List.set_cons_succ];rw[List.set_append_right _ _ (by rw[l3];omega),l3,show(i+1)*3+j-3=i*3+j by omega,ih i j e' v (by simpa using hi) hj he]
 intro es i j e' v hi hj he;unfold bX;rw[←key es i j e' v hi hj he];simp
theorem aHU(l:List (Int×Int))(t:Nat)(q:Int)(ht:t<l.length):(cO l).setIfInBounds (t*2+1) (.int .i64 q)=cO (l.set t ((l.getD t (0,0)).1,q)):=by
 have key:∀(l:List (Int×Int)) (t:Nat),t<l.length→(l.flatMap aS).set (t*2+1) (.int .i64 q)=(l.set t ((l.getD t (0,0)).1,q)).flatMap aS:=by
  intro l;induction l with
  | nil=>intro t ht;simp at ht
  | cons e l ih=>
   intro t ht;have l2:(aS e).length=2:=rfl;cases t with
   | zero=>simp[aS]
   | succ t=>
    simp only[List.flatMap_cons,List.set_cons_succ,List.getD_cons_succ];rw[List.set_append_right _ _ (by rw[l2];omega),l2,show(t+1)*2+1-2=t*2+1 by omega,ih t (by simpa using ht)]
 unfold cO;rw[←key l t ht];simp
variable {w w' : World} {ρ : Nat → Nat} {P : Nat} {A : Adr} {f : fZ} {J : List aR} {jv : Value}
def gR(A:Adr):Fo.Loc→Addr→Prop
 | .inl t,p=>p=⟨A.ra,t*2+1,none⟩
 | .inr (b,i),p=>∃g,A.α b=some g∧p=⟨g,i*3+2,none⟩
theorem aM.setc{q g:Nat}{k:Int}{es junk:List E3}(h:aM w q (k,es) (Option.some g) junk){i j:Nat}{e':E3}{v:Value}(hi:i<es.length)(hj:j<3)(he:aJ e'=(aJ (es.getD i e0)).set j v):aM (w.setCell ⟨g,i*3+j,none⟩ v) q (k,es.set i e') (Option.some g) junk:=by
 obtain⟨h1,h2⟩:=h.arr g rfl;refine⟨by simpa using h.box.set_ne (p:=⟨g,i*3+j,none⟩) v (Ne.symm h2),fun g' e=>?_,fun e=>(by cases e),by simpa using h.small⟩;cases e;refine⟨?_,h2⟩;have:=h1.set (i*3+j) v;rw[aEV _ i j e' v (by simp;omega) hj (by
  rw[he,gD,gD,List.getElem?_append_left hi])]at this
 rw[List.set_append_left _ _ hi]at this;exact this
theorem aEB(h:Rp w ρ P A f jv){b:Nat}{d:Nd}(hb:f.nodes b=some d):jB ρ (A.α b) b=ρ:=by
 obtain⟨q,e1,e2,e3,_⟩:=h.nd b d hb;funext k;by_cases e:A.α b=some k
 ·simp[jB,e,e3 k e]
 ·exact wF e
theorem aFI(A:Adr)(b:Nat):dL A b (A.α b)=A:=by
 have:upd A.α b (A.α b)=A.α:=funext fun x=>by by_cases e:x=b<;>simp[upd,e]
 unfold dL;rw[this]
theorem St.nodeSame(h:St w ρ P A f J){b q:Nat}{d d':Nd}(hb:f.nodes b=some d)(hφ:A.φ b=some q){junk':List E3}(k:Frm (fun x=>x=q∨A.α b=some x) w w')(hN:aM w' q d' (A.α b) junk'):St w' ρ P A (setN f b d') J∧Mv (fun _=>False) w ρ w' ρ:=by
 obtain⟨_,_,_,hR,_⟩:=id h;have:=h.node hb hφ k hN (fun g e=>.inl e);rw[aEB hR hb,aFI]at this;exact this
theorem St.getNode(h:St w ρ P A f J){b:Nat}{d:Nd}(hb:f.nodes b=some d):∃q junk,A.φ b=some q∧ρ q=cE b∧(∀g,A.α b=some g→ρ g=cC b)∧aM w q d (A.α b) junk:=by
 obtain⟨_,_,_,hR,_⟩:=h;obtain⟨q,e1,e2,e3,j,e4⟩:=hR.nd b d hb;exact⟨q,j,e1,e2,e3,e4⟩
theorem St.getLoc(h:St w ρ P A f J)(hI:IC f){L:Fo.Loc}(hL:dQ f L){p:Addr}(hp:gR A L p):w.cell? p=some (.int .i64 (bJ f L))∧w.frozen? p=false:=by
 obtain⟨_,_,_,hR,_⟩:=id h;cases L with
 | inl t=>
  subst hp;have ht:t<f.roots.length:=hL;have hm:f.roots.getD t (0,0)∈f.roots:=by rw[gD,gE ht];exact List.getElem_mem _
  refine⟨?_,hR.hr.frozen _⟩;rw[hR.hr.cell,(kM (f.roots++A.rj) (i:=t) (by simp;omega)).2];have e1:(f.roots++A.rj).getD t (0,0)=f.roots.getD t (0,0):=by rw[gD,List.getElem?_append_left ht,←gD]
  rw[e1];simp only[bJ];have:=(hI.rb _ hm).1;rw[show(((f.roots.getD t (0,0)).2.toNat:Nat):Int)=(f.roots.getD t (0,0)).2 by omega]
 | inr bi=>
  obtain⟨b,i⟩:=bi;obtain⟨g,hg,rfl⟩:=hp;obtain⟨hb,es,hes,hi⟩:=hL;obtain⟨q,junk,e1,e2,e3,e4⟩:=h.getNode hes;rw[hg]at e4;have harr:=(e4.arr g rfl).1;refine⟨?_,harr.frozen _⟩;have hil:i <(es++junk).length:=by simp;omega
  rw[(bH harr hil).2.2];have e5:(es++junk).getD i e0=es.getD i e0:=by rw[gD,List.getElem?_append_left hi,←gD]
  simp only
  rw[e5];simp only[bJ,aE hes,ch];have hm:es.getD i e0∈es:=by rw[gD,gE hi];exact List.getElem_mem _
  have:=hI.kb b _ hes
  rcases this with h1 | ⟨_,_,h3⟩
  ·simp at h1
  ·have:=(h3 _ hm).1
   rw[show(((es.getD i e0).2.2.toNat:Nat):Int)=(es.getD i e0).2.2 by omega]
theorem St.setLoc(h:St w ρ P A f J){L:Fo.Loc}(hL:dQ f L){p:Addr}(hp:gR A L p)(q:Nat):St (w.setCell p (.int .i64 (q:Int))) ρ P A (setL f L q) J∧Mv (fun _=>False) w ρ (w.setCell p (.int .i64 (q:Int))) ρ:=by
 cases L with
 | inl t=>
  subst hp;have ht:t<f.roots.length:=hL;have hc:ρ A.ra=2:=by obtain⟨_,_,_,h1,_⟩:=h;exact h1.rr
  have k:Frm (fun x=>x=A.ra) w (w.setCell ⟨A.ra,t*2+1,none⟩ (.int .i64 (q:Int))):=Frm.set (S:=fun x=>x=A.ra) w (p:=⟨A.ra,t*2+1,none⟩) rfl _;refine⟨h.of k (fun x e=>by rw[e,hc];exact aCI.2) (fun _ _ _=>rfl) fun jv hR=>?_,k.wide (fun x _ e=>.inl (by rw[e,hc];omega)),fun _ _ _=>rfl⟩;have no:∀{x r},ρ x=r→r≠2→¬x=A.ra:=fun {x r} e hr q=>hr (by rw[←e,q,hc]);refine hR.gen (Kp.same hR k) (.inl ⟨no hR.rP (by omega),?_⟩) (.inr ⟨?_,hc⟩) (.inl ⟨no hR.rm (by omega),rfl⟩) rfl (.inl ⟨no hR.rc (by omega),rfl⟩) rfl (.inl ⟨no hR.rd (by omega),rfl,rfl⟩) (fun x d hx=>.inl ⟨hx,rfl,rfl,fun y hy=>?_⟩) hR.no (by simpa [setL] using hR.rs) hR.ds
  ·simp[dC,setL]
  ·have:=hR.hr.set (t*2+1) (.int .i64 (q:Int))
   rw[aHU _ t q (by simp;omega)]at this;have e1:(f.roots++A.rj).getD t (0,0)=f.roots.getD t (0,0):=by rw[gD,List.getElem?_append_left ht,←gD]
   rw[e1,List.set_append_left _ _ ht]at this;exact this
  ·rcases hy with e | e
   ·exact no e (by unfold cE;omega)
   ·exact no e (by unfold cC;omega)
 | inr bi=>
  obtain⟨b,i⟩:=bi;obtain⟨g,hg,rfl⟩:=hp;obtain⟨hb,es,hes,hi⟩:=hL;obtain⟨qq,junk,e1,e2,e3,e4⟩:=h.getNode hes;rw[hg]at e4;have hN:=e4.setc (v:=.int .i64 (q:Int)) (e':=((es.getD i e0).1,(es.getD i e0).2.1,(q:Int))) hi (by omega:2<3) (by simp[aJ]);have:=h.nodeSame (w':=w.setCell ⟨g,i*3+2,none⟩ (.int .i64 (q:Int))) hes e1 (Frm.set w (p:=⟨g,i*3+2,none⟩) (.inr hg) _) (by rw[hg];exact hN);have e5:setL f (.ent b i) q=setN f b (2,es.set i ((es.getD i e0).1,(es.getD i e0).2.1,(q:Int))):=by simp[setL,setE,aE hes]
  rw[e5];exact this
