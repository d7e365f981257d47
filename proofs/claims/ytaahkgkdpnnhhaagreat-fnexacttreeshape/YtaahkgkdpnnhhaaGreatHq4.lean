import Derived.Test.YtaahkgkdpnnhhaaGreatHpJ
import Derived.Test.YtaahkgkdpnnhhaaGreatFr1
set_option maxHeartbeats 9999999
set_option maxRecDepth 99999
set_option linter.all false
namespace Go.Proofs.YtaahkgkdpnnhhaaGreat
open Go.RowKit Fo
variable{A:Adr}{K:Int}{zs:List Int}{dj:List Value}{P c:Nat}{ρ:Nat→Nat}{jv:Value}{w:World}{f:fZ}
theorem yK(zs ys:List Int)(n:Nat):∀l:List Nat,(∀x∈l,x<n)→
  (l.filterMap fun i=>if h:2≤i∧i<n then(if isF zs ys i then some (⟨i,h⟩:Blk n)else none)else none).head?.map (fun x=>x.1)=l.find? fun b=>decide (2≤b) && (zs.getD b 0 == 0) && (ys.getD b 0 == 0)
 | [],_=>rfl
 | a :: l,h=>by
  have ih:=yK zs ys n l fun x hx=>h x (List.mem_cons_of_mem _ hx);have ha:=h a List.mem_cons_self;by_cases h2:2≤a
  ·by_cases hf:isF zs ys a=true
   ·have:(decide (2≤a) && (zs.getD a 0 == 0) && (ys.getD a 0 == 0))=true:=by
     unfold isF at hf;simp only[Bool.and_eq_true]at hf ⊢;exact⟨⟨by simpa using h2,hf.1⟩,hf.2⟩
    rw[List.filterMap_cons_some (b:=(⟨a,h2,ha⟩:Blk n)) (by simp[h2,ha,hf]),List.find?_cons_of_pos (p:=fun b=>decide (2≤b) && (zs.getD b 0 == 0) && (ys.getD b 0 == 0)) this];rfl
   ·have:¬(decide (2≤a) && (zs.getD a 0 == 0) && (ys.getD a 0 == 0))=true:=fun q=>hf (by
     unfold isF;simp only[Bool.and_eq_true]at q ⊢;exact⟨q.1.2,q.2⟩)
    rw[List.filterMap_cons_none (by simp[h2,ha,hf]),List.find?_cons_of_neg (p:=fun b=>decide (2≤b) && (zs.getD b 0 == 0) && (ys.getD b 0 == 0)) this];exact ih
  ·rw[List.filterMap_cons_none (by simp[h2]),List.find?_cons_of_neg (p:=fun b=>decide (2≤b) && (zs.getD b 0 == 0) && (ys.getD b 0 == 0)) (by simp[h2])]
   exact ih
theorem aLN(f:fZ):low f.cur f.com=(aF f:Int):=by
 have h:=yK f.cur f.com f.cur.length (List.range f.cur.length) (fun x hx=>by simpa using hx);unfold low aF cu co;rw[←h];unfold frs;split
 ·rename_i e;rw[e];rfl
 ·rename_i x l e;rw[e];rfl
theorem lO{ys:List Int}(h:IsC w c (dG (zs++ys)) 2)(hs:∀i,0≤zs.getD i 0∧zs.getD i 0≤2000000):Nts w (.slice (some ⟨c,0,none⟩) zs.length (zs.length+ys.length)) zs:=by
 refine⟨fun i=>by have:=hs i;omega,_,_,rfl,fun _=>⟨c,0,rfl,fun i hi=>?_⟩⟩;rw[h.cell];simp only[dG,Nat.zero_add,List.getElem?_toArray,List.map_append,gD];rw[List.getElem?_append_left (by simpa using hi),List.getElem?_map,gE hi];rfl
theorem xA(h:IsC w c (jH zs dj) 2)(hs:∀i,0≤zs.getD i 0∧zs.getD i 0≤2000000):Nts w (.slice (some ⟨c,0,none⟩) zs.length (zs.length+dj.length)) zs:=by
 refine⟨fun i=>by have:=hs i;omega,_,_,rfl,fun _=>⟨c,0,rfl,fun i hi=>?_⟩⟩;rw[h.cell];simp only[jH,Nat.zero_add,List.getElem?_toArray,gD];rw[List.getElem?_append_left (by simpa using hi),List.getElem?_map,gE hi];rfl
theorem aLC(h:IsC w c (jH zs dj) 2){i:Nat}(hi:i<zs.length):w.cell? ⟨c,i,none⟩=some (.int .i64 (zs.getD i 0)):=by
 rw[h.cell];simp only[jH,List.getElem?_toArray,gD];rw[List.getElem?_append_left (by simpa using hi),List.getElem?_map,gE hi];rfl
structure TkS(P m c:Nat)(n:Nat)(dv jv:Value)(w:World):Prop where
 m3:w.cell? ⟨P,3,none⟩=some (.map (some m))
 m4:w.cell? ⟨P,4,none⟩=some (.slice (some ⟨c,0,none⟩) n n)
 m5:w.cell? ⟨P,5,none⟩=some dv
 m7:w.cell? ⟨P,7,none⟩=some jv
theorem Rp.cells(h:Rp w ρ P A f jv):TkS P A.m A.c f.cur.length (.slice (some ⟨A.d,0,none⟩) f.com.length (f.com.length+A.dj.length)) jv w:=
 ⟨by rw[h.hP.cell];rfl,by rw[h.hP.cell];rfl,by rw[h.hP.cell];rfl,by rw[h.hP.cell];rfl⟩
theorem Mv.of_below{X:Nat→Prop}{w':World}(h:Bl w w'):Mv X w ρ w' ρ:=⟨Frm.of_below h,fun _ _ _=>rfl⟩
theorem Rp.count(h:Rp w ρ P A f jv){b:Nat}(hb:b<f.cur.length):w.cell? ⟨A.c,b,none⟩=some (.int .i64 (cu f b)):=by
 rw[h.hc.cell];simp[dG,cu,gD,hb]
theorem aA{p:Prop}(h:p):Hid p:=h
abbrev aBB:Ending:=.panicked [{v:=.iface 169 (.agg #[]),recovered:=false}]
structure aLX(w:World)(ρ:Nat→Nat)(P:Nat)(A:Adr)(f:fZ)(J:List aQ)(q:Nat)(d:Nd)(a:Option Nat)(e:Ending)(w':World):Prop where
 no:aF f=0→e=aBB∧Bl w w'
 yes:aF f≠0→e=.returned (.int .i64 (aF f))∧∃ρ',St w' ρ' P (cV A (aF f) q a) (takeAt f (aF f) d) (J++[(aF f,cu f (aF f),f.nodes (aF f))])∧Mv (fun x=>x=q∨a=some x) w ρ w' ρ'∧Frm (fun k=>ρ k=1∨ρ k=6∨ρ k=3∨ρ k=4) w w'
theorem oM(w:World)(ρ:Nat→Nat)(P:Nat)(A:Adr)(f:fZ)(J:List aQ)(q:Nat)(d:Nd)(a:Option Nat)(junk:List E3)(h:St w ρ P A f J)(hz:Sz K f)(hK:K≤1000000)(kz:J.length≤900000)(hN:aM w q d a junk)(hq:ρ q=0)(ha:∀g,a=some g→ρ g=0):
  Calls Tryz.prog 133 #[.pointer (some ⟨P,0,none⟩),.pointer (some ⟨q,0,none⟩)] w (aLX w ρ P A f J q d a):=by
 have qk:=h;obtain⟨ja,jp,jj,hR,hJ⟩:=h;obtain⟨m3,m4,m5,m7⟩:=hR.cells;have AR:=sI (some ⟨A.c,0,none⟩) (some ⟨A.d,0,none⟩) f.cur.length (f.com.length+A.dj.length) f.cur f.com hz.com hz.n512 hz.n8;rw[aLN]at AR;have nm:∀w:World,IsC w A.c (dG f.cur) 2→Nts w (.slice (some ⟨A.c,0,none⟩) f.cur.length f.cur.length) f.cur:=fun w h=>by
  have:=lO (ys:=[]) (by simpa using h:IsC w A.c (dG (f.cur++[])) 2) (fun i=>by have:=hz.cb i;unfold cu at this;omega)
  simpa using this
 have C1:∀w:World,IsC w A.d (jH f.com A.dj) 2→Nts w (.slice (some ⟨A.d,0,none⟩) f.com.length (f.com.length+A.dj.length)) f.com:=fun w h=>xA h (fun i=>by have:=hz.mb i;unfold co at this;omega);go_enter Tryz.func133,Tryz.ntmps133;go_wp2;go_region_held3 (fun w'=>w'.cell? ⟨P,4,none⟩=some (.slice (some ⟨A.c,0,none⟩) f.cur.length f.cur.length)∧w'.cell? ⟨P,5,none⟩=some (.slice (some ⟨A.d,0,none⟩) f.com.length (f.com.length+A.dj.length))) (first | go_keep | exact⟨m4,m5⟩ | exact⟨(hB.cell (p:=⟨P,4,none⟩) hR.hP.lt).trans m4,(hB.cell (p:=⟨P,5,none⟩) hR.hP.lt).trans m5⟩) ((go_at_call 151;refine(AR _ (nm _ ?_) (C1 _ ?_)).mono ?_;exact hR.hc;exact hR.hd;rintro e w1 ⟨rfl,c9⟩;have hB:Bl w w1:=(bQ w.heap.size w).drew.trans c9));by_cases h0:aF f=0
 ·have PJ:((aF f:Nat):Int)=0:=by omega
  go_wp2
  exact⟨rfl,fun _=>⟨rfl,hB⟩,fun q=>absurd h0 q⟩
 ·have PJ:¬((aF f:Nat):Int)=0:=by omega
  obtain⟨l1,l2,l3,l4⟩:=aR h0;have Py:St w1 ρ P A f J:=qk.below hB;go_wp2_with fail;refine(lR _ ρ P A f J (aF f) Py hz l2 kz).mono ?_;rintro e w2 ⟨rfl,ρ2,ax,lh,-,CU⟩;have yv:aM w1 q d a junk:=hN.below hB;have sc:aM w2 q d a junk:=yv.frm lh.frm (fun e=>by rcases e with e | e;exact e hq;exact e) fun g eg e=>by rcases e with e | e;exact e (ha g eg);exact e
  have gp:ρ2 q=0:=by rw[lh.rol q yv.box.lt (fun e=>e)];exact hq
  have Vi:∀g,a=some g→ρ2 g=0:=fun g e=>by rw[lh.rol g (yv.arr g e).1.lt (fun e=>e)];exact ha g e
  obtain⟨ja2,jp2,jj2,iu,ow⟩:=id ax;obtain⟨n3,n4,n5,n7⟩:=iu.cells;obtain⟨w3,YS,Eu,bu⟩:=iu.hm.put (aF f) q (by have:=hz.n512;omega);obtain⟨cq,E0⟩:=ax.put sc gp Vi Eu bu;obtain⟨ja3,jp3,jj3,mh,sy⟩:=id cq;have o4:w3.cell? ⟨P,4,none⟩=some (.slice (some ⟨A.c,0,none⟩) f.cur.length f.cur.length):=mh.cells.m4;have jh:w3.cell? ⟨A.c,aF f,none⟩=some (.int .i64 0):=by
   have:=mh.hc.cell (aF f)
   rw[show(cV A (aF f) q a).c=A.c from rfl]at this;rw[this];have l3':f.cur.getD (aF f) 0=0:=l3;rw[gD]at l3';simp only[dG,List.getElem?_toArray,List.getElem?_map,setN,gE l2]at l3' ⊢;simp at l3' ⊢;exact l3'
  have Gt:w3.frozen? ⟨A.c,aF f,none⟩=false:=mh.hc.frozen (aF f);obtain⟨aw,Gj⟩:=cq.setC (b:=aF f) l2 1;have l2i:((aF f:Nat):Int) <(f.cur.length:Int):=by omega
  have FN:=aA aw;have La:=aA Gj;clear aw Gj;go_wp2;go_ret;refine⟨fun q=>absurd q h0,fun _=>⟨rfl,_,FN.out,?_,?_⟩⟩
  ·exact(((Mv.of_below (X:=fun x=>x=q∨a=some x) (ρ:=ρ) hB).trans lh (fun _ _ e=>e.elim)).trans E0 (fun x _ e=>e)).trans La.out (fun _ _ e=>e.elim)
  ·have F1:Frm (fun k=>ρ k=1∨ρ k=6∨ρ k=3∨ρ k=4) w w3:=((Frm.of_below hB).next CU (fun x _ e=>by rcases e with e | e;exact .inl e;exact .inr (.inl e))).next bu (fun x _ e=>.inr (.inr (.inl (by rw[e];exact hR.rm))))
   exact F1.trans (Frm.set w3 (p:=⟨A.c,aF f,none⟩) (.inr (.inr (.inr hR.rc))) _)
theorem aJI(w:World)(ρ:Nat→Nat)(P:Nat)(A:Adr)(f:fZ)(J:List aQ)(b:Nat)(h:St w ρ P A f J)(hz:Sz K f)(kz:J.length≤900000)(hb:b<f.cur.length):
  Calls Tryz.prog 123 #[.pointer (some ⟨P,0,none⟩),.int .i64 b] w fun e w'=>e=.returned (.tuple #[])∧∃ρ',St w' ρ' P (gQ A b) (freeB f b) (J++[(b,cu f b,f.nodes b)])∧Mv (fun _=>False) w ρ w' ρ':=by
 go_enter Tryz.func123,Tryz.ntmps123
 go_wp2_with fail
 refine(lR _ ρ P A f J b h hz hb kz).mono ?_;rintro e w2 ⟨rfl,ρ2,ax,lh,-⟩;obtain⟨ja2,jp2,jj2,iu,ow⟩:=id ax;obtain⟨n3,n4,n5,n7⟩:=iu.cells;have CR:(b:Int) <(f.cur.length:Int):=by omega
 have jh:=iu.count hb;have Gt:w2.frozen? ⟨A.c,b,none⟩=false:=iu.hc.frozen b;obtain⟨aw,Gj⟩:=ax.setC (b:=b) hb 0;obtain⟨ja3,jp3,jj3,mh,sy⟩:=id aw;obtain⟨w5,FC,ng,el⟩:=mh.hm.del b (by have:=hz.n512;omega) 0;have o3:(w2.setCell ⟨A.c,b,none⟩ (.int .i64 0)).cell? ⟨P,3,none⟩=some (.map (some A.m)):=mh.cells.m3;obtain⟨cw,Ij⟩:=aw.del (b:=b) ng el;have CD:=aA cw;have PC:=aA Ij;have La:=aA Gj;clear cw Ij Gj aw;go_wp2;go_end0;exact⟨rfl,ρ2,CD.out,(lh.trans La.out (fun _ _ e=>e)).trans PC.out (fun _ _ e=>e)⟩
end Go.Proofs.YtaahkgkdpnnhhaaGreat
namespace Go.Proofs.YtaahkgkdpnnhhaaGreat
open Go.RowKit Go.Shelf Fo
attribute [local go_sem] Oper.semAt_some
def aFJ(F:Fence)(n:Nat)(P:Program)(g:Nat)(lb:Array Value)(vs:List Nat)(Kp:World→World→Prop)(w:World):Prop:=
 ∀(l:Nat) (J:List Nat→World→Prop) (W:World),Bl w W→AbidesFrom W.heap.size J→
  (∀(pre:List Nat) (x:Nat) (W1:World),J pre W1→pre++[x] <+: vs→YieldAt F (n-1) P l #[.int .i64 (x:Int)] W1 fun e W'=>e=.returned (.bool true)∧J (pre++[x]) W'∧Kp W1 W')→
  J [] W→CallsIn F n P g (#[.func (.yield l) #[] #[]]++lb) W fun e W'=>(∃v,e=.returned v)∧J vs W'
theorem jD{F:Fence}{n:Nat}{P:Program}{g:Operand}{ps:Array Tmp}{assign body:Code}{Q:Exit→Act→World→Prop}{a:Act}{w:World}
  (cy:F.round=none) (h1:1≤n) {gf:Nat} {lb:Array Value} (hg:a.eval g=.func (.func gf) #[] lb) (Pa:F.fn gf) (eg:∀args w,(callFunc gf args).run P w=.ok (.enter gf args) w)
  {Kp:World→World→Prop} {vs:List Nat} {w0:World} (KN:aFJ F (n-1) P gf lb vs Kp w0)
  (Ke:∀{A B C:World},Kp A B→Kp B C→Kp A C) (IV:∀(W:World) (l:Nat) (o o':Obj),w.heap.size≤l→W.heap[l]?=some o→o.isCells=false→o.isWalk=false→Kp W (W.putObj l o')) (ik:Bl w0 w) (KD:ps.size=1)
  (I:List Nat→World→Prop) (hI:OwnFrom w.heap.size I) (h0:I [] w)
  (um:∀(l:Nat) (pre:List Nat) (x:Nat) (W:World),I pre W→pre++[x] <+: vs→
   assign.wpIn (F.inRound l) (n-1-1) P (Exit.then (fun a' W'=>W'=W∧∀W2,I pre W2→body.wpIn (F.inRound l) (n-1-1) P (ownPostG w.heap.size Kp I (fun _ _ _=>False) (pre++[x]) W2) a' W2) (fun _ _ _=>False)) {tmps:=(ps.zip #[.int .i64 (x:Int)]).foldl (fun t (p,v)=>t.setIfInBounds p v) a.tmps,defers:=[]} W)
  (AH:∀(D:Nat) (W:World),w.heap.size≤D→I vs W→W.heap[D]?=some (.deferred (some []))→Q .normal {a with defers:={target:=.collected D,args:=#[]} :: a.defers} W):
  (Code.rangeFunc g ps assign body).wpIn F n P Q a w:=by
 refine wpIn_rangeFunc fun fn o9=>?_;rw[cy];obtain⟨D,hD⟩:=eZ (w.heap.size);obtain⟨R,hR⟩:∃R:LoopState→Option Code→Loop,R=fun st pe=>{state:=st,pending:=pe,fn,tmps:=a.tmps,params:=ps,assign,body,defers:=w.heap.size}:=⟨_,rfl⟩;obtain⟨V,hV⟩:=eZ ((w.alloc (.deferred (some []))).alloc (.loop (R .ready none)));have sz:V.heap.size=D+2:=by rw[←hV,←hD];simp
 have atL:V.heap[D+1]?=some (.loop (R .ready none)):=by
  have:=World.alloc_heap_new (w.alloc (.deferred (some []))) (.loop (R .ready none))
  rw[World.size_alloc,hV,hD]at this;exact this
 have atD:V.heap[D]?=some (.deferred (some [])):=by
  rw[←hV,←hD];exact(Below.heap_alloc _ _ _ (by simp)).trans (World.alloc_heap_new w _)
 have start:I [] V:=by rw[←hV];exact hI.alloc _ (hI.alloc _ h0)
 have old:Bl w0 V:=by
  rw[←hV];exact ik.trans ((((bQ _ w).alloc (nR _) _).alloc (by simp) _).mono ik.size)
 refine⟨D+1,[{target:=.collected D,args:=#[]}],V,{target:=.fn (.func gf) lb,args:=#[.func (.yield (D+1)) #[] #[]]},V,gf,#[.func (.yield (D+1)) #[] #[]]++lb,V,?_,?_,?_,?_,fun _=>h1,?_⟩
 ·rw[←hV,←hD,hR];exact run_enterLoop_outer _ _ _ _ _
 ·simp only[resolve,hg];simp[go_sem]
 ·intro f' ER;simp[Target.leads]at ER;subst ER;exact Pa
 ·simp[invoke,go_sem,eg]
 rw[hD]at hI IV um AH;have book:AbidesFrom V.heap.size fun pre W=>I pre W∧W.heap[D+1]?=some (.loop (R .ready none))∧W.heap[D]?=some (.deferred (some [])):=fun s X Y row hs rk hr=>
  ⟨hI s X Y row hs.1 rk fun r e=>by obtain⟨hB,o,ho,hw⟩:=hr r e;exact⟨by omega,o,ho,Obj.not_cells_of_walk hw⟩,
   (grownBy_keeps rk (fun r e=>(hr r e).2) hs.2.1 rfl).trans hs.2.1,(grownBy_keeps rk (fun r e=>(hr r e).2) hs.2.2 rfl).trans hs.2.2⟩
 refine(KN (D+1) _ V old book (fun pre x W hJ lg=>?_) ⟨start,atL,atD⟩).mono ?_
 ·obtain⟨hi,hl,hk⟩:=hJ
  have ai:D+1<W.heap.size:=(Array.getElem?_eq_some_iff.1 hl).1;have hy:=run_yield (P:=P) (args:=#[.int .i64 (x:Int)]) hl (by rw[hR];exact KD.symm);rw[hR]at hy;refine⟨fn,_,assign,body,hy,roundIn_of_wpIn o9 (wpIn_mono (um (D+1) pre x W hi lg) ?_)⟩;clear hy;rintro e a' W' h;cases e with
  | ret=>exact h
  | exit id=>exact h
  | goto t=>exact h
  | panic ch=>exact h
  | outgrown=>exact h
  | normal=>
  obtain⟨rfl,EF⟩:=h;refine⟨_,run_beginRound hl (by rw[hR]),?_⟩;have b2:(W'.putObj (D+1) (.loop {R .ready none with state:=.busy})).heap[D+1]?=some (.loop {R .ready none with state:=.busy}):=World.putObj_heap_same ai;have d2:(W'.putObj (D+1) (.loop {R .ready none with state:=.busy})).heap[D]?=some (.deferred (some [])):=(World.putObj_heap_other (by omega)).trans hk;refine wpIn_mono (EF _ (hI.putObj _ hi (by omega) hl rfl)) ?_;rintro e a3 W3 hp;cases e with
  | normal=>
   obtain⟨k3,p3,i3⟩:=hp;have l3:=k3.same _ _ (by omega) b2 rfl;have hr:=run_endRound (P:=P) none l3;rw[hR]at hr l3;refine⟨_,_,hr,rfl,⟨hI.putObj _ i3 (by omega) l3 rfl,?_,?_⟩,Ke (Ke (IV _ _ _ _ (by omega) hl rfl rfl) p3) (IV _ _ _ _ (by omega) l3 rfl rfl)⟩
   ·rw[hR];exact World.putObj_heap_same (Array.getElem?_eq_some_iff.1 l3).1
   ·exact(World.putObj_heap_other (by omega)).trans (k3.same _ _ (nR _) d2 rfl)
  | ret=>exact hp.2.elim
  | exit id=>exact hp.2.elim
  | goto t=>exact hp.2.elim
  | panic ch=>exact hp.elim
  | outgrown=>exact hp.elim
 ·rintro e W2 ⟨⟨v,rfl⟩,hi,hl,hk⟩
  exact⟨none,_,by have:=run_endLoop (P:=P) hl (by rw[hR];simp);rw[hR]at this;exact this,AH _ _ (nR _) (hI.putObj _ hi (by omega) hl rfl) ((World.putObj_heap_other (by omega)).trans hk)⟩
structure KpC(Bn q:Nat)(a:Option Nat)(W W':World):Prop where
 size:W.heap.size≤W'.heap.size
 bn:W'.heap[Bn]?=W.heap[Bn]?
 q:W'.heap[q]?=W.heap[q]?
 a:∀g,a=some g→W'.heap[g]?=W.heap[g]?
theorem sC(d:Nd):(kids d).length≤d.2.length:=by unfold kids;split<;>simp
theorem KpC.refl(Bn q:Nat)(a:Option Nat)(W:World):KpC Bn q a W W:=⟨nR _,rfl,rfl,fun _ _=>rfl⟩
theorem KpC.trans{Bn q:Nat}{a:Option Nat}{A B C:World}(h:KpC Bn q a A B)(k:KpC Bn q a B C):KpC Bn q a A C:=
 ⟨lT h.size k.size,k.bn.trans h.bn,k.q.trans h.q,fun g e=>(k.a g e).trans (h.a g e)⟩
theorem KpC.put{Bn q N:Nat}{a:Option Nat}(h1:Bn<N)(h2:q<N)(h3:∀g,a=some g→g<N)(W:World)(l:Nat)(o o':Obj)(hl:N≤l)(_ho:W.heap[l]?=some o)(_:o.isCells=false)(_:o.isWalk=false):KpC Bn q a W (W.putObj l o'):=
 ⟨by simp[World.putObj],World.putObj_heap_other (by omega),World.putObj_heap_other (by omega),fun g e=>World.putObj_heap_other (by have:=h3 g e;omega)⟩
theorem KpC.grown{Bn q:Nat}{a:Option Nat}{W W':World}(h:W.grownBy W' none)(h1:Bn<W.heap.size)(h2:q<W.heap.size)(h3:∀g,a=some g→g<W.heap.size):KpC Bn q a W W':=
 ⟨h.size,h.block Bn h1 (by simp),h.block q h2 (by simp),fun g e=>h.block g (h3 g e) (by simp)⟩
theorem aM.kp{W W':World}{Bn q:Nat}{a:Option Nat}{d:Nd}{junk:List E3}(h:aM W q d a junk)(k:KpC Bn q a W W'):aM W' q d a junk:=
 ⟨h.box.of k.q,fun g e=>⟨(h.arr g e).1.of (k.a g e),(h.arr g e).2⟩,h.nil,h.small⟩
theorem wE(F:Fence)(n:Nat)(hg:F.fn 82)(cy:F.round=none)(hn:1≤n)(l Bn q:Nat)(a:Option Nat)(k:Int)(es junk:List E3)(ft:es.length≤10)(Av:k=2→∀e∈es,0≤e.2.2)(J:List Nat→World→Prop)(B0:Nat)(hJ:AbidesFrom B0 J)
  (hY:∀pre (x:Nat) W,J pre W→pre++[x] <+: kids (k,es)→YieldAt F (n-1) Tryz.prog l #[.int .i64 (x:Int)] W fun e W'=>e=.returned (.bool true)∧J (pre++[x]) W'∧KpC Bn q a W W')
  (W:World) (hB:IsC W Bn #[.pointer (some ⟨q,0,none⟩)] 112) (hN:aM W q (k,es) a junk) (h0:J [] W):
  CallsIn F n Tryz.prog 82 #[.func (.yield l) #[] #[],.pointer (some ⟨Bn,0,none⟩)] W fun e W'=>(∃v,e=.returned v)∧J (kids (k,es)) W':=by
 have lq:es.length+junk.length≤maxLen:=hN.small;have c0:W.cell? ⟨Bn,0,none⟩=some (.pointer (some ⟨q,0,none⟩)):=hB.c rfl;have c1:W.cell? ⟨q,1,none⟩=some (.slice (adr a) es.length (es.length+junk.length)):=by rw[hN.box.cell];rfl
 refine callsIn_of_wp Tryz.func82 rfl hg ?_ cy;simp only[Tryz.ntmps82,List.size_toArray,List.length_cons,List.length_nil,Nat.reduceAdd,Nat.reduceSub,Array.replicate_succ,Array.replicate_zero,List.push_toArray,List.append_toArray,List.nil_append,List.cons_append];gi_wp2;gi_loopw [10] (fun i wr=>∃m:Nat,m≤es.length∧i=.int .i64 m∧J ((kids (k,es)).take m) wr∧KpC Bn q a W wr) (fun i _=>es.length -(intOf i).toNat)
 case atStart=>exact⟨0,Nat.zero_le _,rfl,by simpa using h0,KpC.refl _ _ _ _⟩
 case round=>
  obtain⟨m,hm,rfl,Ck,hk⟩:=hrel;have Da:IsC wr Bn #[.pointer (some ⟨q,0,none⟩)] 112:=hB.of hk.bn;have Lz:aM wr q (k,es) a junk:=hN.kp hk;have d0:wr.cell? ⟨Bn,0,none⟩=some (.pointer (some ⟨q,0,none⟩)):=Da.c rfl;have d1:wr.cell? ⟨q,0,none⟩=some (.int .i64 k):=by rw[Lz.box.cell];rfl
  by_cases ai:m<es.length
  ·obtain⟨g,wg,Ma,Bf⟩:=Lz.some (by simp;omega)
   subst wg;have Xi:m <(es++junk).length:=by simp;omega
   obtain⟨e1,e2,e3⟩:=bG Ma Xi;have ie:(es++junk).getD m e0=es.getD m e0:=by rw[gD,List.getElem?_append_left ai,←gD]
   simp only at e1 e2 e3
   rw[ie]at e1 e2 e3;have HX:Hid (m<es.length∧(es.getD m e0).2.2=(es.getD m e0).2.2):=⟨ai,rfl⟩;obtain⟨⟨s1,s2,x⟩,Fw⟩:∃ek,es.getD m e0=ek:=⟨_,rfl⟩;rw[Fw]at e1 e2 e3;have HK:Hid (es.getD m e0=(s1,s2,x)):=Fw;have hi:(m:Int) <(es.length:Int):=by omega
   have wv:Bn<wr.heap.size:=Da.lt;have C2:q<wr.heap.size:=Lz.box.lt;have E6:g<wr.heap.size:=Ma.lt;have bm:wr.grownBy (wr.alloc (.cells #[.string s1,.string s2,.int .i64 x] 110)) none:=World.grownBy_alloc _ _ none;have vo:Hid (J ((kids (k,es)).take m) (wr.alloc (.cells #[.string s1,.string s2,.int .i64 x] 110))):=hJ _ _ _ none Ck bm (fun r e=>by cases e);have No:Hid (KpC Bn q (some g) wr (wr.alloc (.cells #[.string s1,.string s2,.int .i64 x] 110))):=KpC.grown bm wv C2 (fun g' e=>by cases e;exact E6);clear c0 c1 ie Fw bm Ck;simp only[adr,Option.map_some]at *;by_cases AM:k=2
   ·subst AM
    have WE:(s1,s2,x)∈es:=by rw[←HK.out,gD,gE ai];exact List.getElem_mem _
    obtain⟨y,rfl⟩:∃y:Nat,x=(y:Int):=⟨x.toNat,by have:=Av rfl _ WE;simp only at this;omega⟩;have HT:Hid ((kids (2,es)).take m++[y]=(kids (2,es)).take (m+1)):=by
     have hx:(kids (2,es))[m]?=some y:=by
      have:=HK.out
      rw[gD,gE ai]at this;simp only[Option.getD_some]at this;simp[kids,gE ai,this,ch]
     show _=_
     rw[List.take_add_one,hx];rfl
    obtain⟨fn,tmps,assign,body,hy,hR⟩:=hY _ y _ vo.out (by rw[HT.out];exact List.take_prefix _ _);clear hY;have HB:=aA hk;clear hk;gi_wp2;refine hR.mono ?_;rintro e W3 ⟨rfl,sy,Jn⟩;rw[HT.out]at sy;clear d0 d1 e1 e2 e3 hy hR;gi_wp2;go_roundw
    case rel=>exact⟨m+1,by omega,by go_num,sy,(HB.out.trans No.out).trans Jn⟩
    case measure=>simp[intOf];omega
   ·have WZ:(k == 2)=false:=by simpa using AM
    have HT:Hid ((kids (k,es)).take (m+1)=(kids (k,es)).take m):=by
     show _=_
     simp[kids,AM]
    clear hY;gi_wp2;refine⟨fun _ h=>(by cases h),?_⟩;gi_wp2;go_roundw
    case rel=>exact⟨m+1,by omega,by go_num,by rw[HT.out];exact vo.out,hk.trans No.out⟩
    case measure=>simp[intOf];omega
  ·obtain rfl:m=es.length:=by omega
   have HT:Hid ((kids (k,es)).take es.length=kids (k,es)):=List.take_of_length_le (sC (k,es));gi_wp2;go_end0;exact⟨⟨_,rfl⟩,by rw[←HT.out];exact Ck⟩
theorem kN(F:Fence)(n:Nat)(hg:F.fn 59)(cy:F.round=none)(p:Addr)(w:World):
  CallsIn F n Tryz.prog 59 #[.pointer (some p)] w fun e w'=>e=.returned (.func (.func 82) #[] #[.pointer (some ⟨w.heap.size,0,none⟩)])∧w'=w.alloc (.cells #[.pointer (some p)] 112):=by
 refine callsIn_of_wp Tryz.func59 rfl hg ?_ cy;simp only[Tryz.ntmps59,List.size_toArray,List.length_cons,List.length_nil,Nat.reduceAdd,Nat.reduceSub,Array.replicate_succ,Array.replicate_zero,List.push_toArray,List.append_toArray,List.nil_append,List.cons_append];gi_wp2;go_ret;exact⟨rfl,rfl⟩
theorem jQ(F:Fence)(n:Nat)(hg:F.fn 82)(cy:F.round=none)(hn:1≤n)(Bn q:Nat)(d:Nd)(a:Option Nat)(junk:List E3)(ft:d.2.length≤10)(Av:d.1=2→∀e∈d.2,0≤e.2.2)(w:World)
  (hB:IsC w Bn #[.pointer (some ⟨q,0,none⟩)] 112) (hN:aM w q d a junk):
  aFJ F n Tryz.prog 82 #[.pointer (some ⟨Bn,0,none⟩)] (kids d) (KpC Bn q a) w:=fun l J W hW hJ hY h0=>
 wE F n hg cy hn l Bn q a d.1 d.2 junk ft Av J _ hJ hY W (hB.of (hW.block _ hB.lt)) (hN.below hW) h0
attribute [local go_sem] Oper.semAt_some
variable {w w' : World} {ρ : Nat → Nat} {P : Nat} {A : Adr} {f : fZ} {J : List aQ}
theorem IsC.own{g:Nat}{cs:Array Value}{t:TypeId}{row:Option Nat}(h:IsC w g cs t)(hg:w.grownBy w' row)(hr:∀r,row=some r→∃o:Obj,w.heap[r]?=some o∧o.isCells=false):IsC w' g cs t:=by
 refine h.of (hg.block g h.lt fun e=>?_);obtain⟨o,ho,hc⟩:=hr g e.symm;rw[show w.heap[g]?=_ from h]at ho;cases ho;cases hc
theorem aM.own{q:Nat}{d:Nd}{a:Option Nat}{junk:List E3}{row:Option Nat}(h:aM w q d a junk)(hg:w.grownBy w' row)(hr:∀r,row=Option.some r→∃o:Obj,w.heap[r]?=Option.some o∧o.isCells=false):aM w' q d a junk:=
 ⟨h.box.own hg hr,fun g e=>⟨(h.arr g e).1.own hg hr,(h.arr g e).2⟩,h.nil,h.small⟩
theorem St.own{row:Option Nat}(h:St w ρ P A f J)(hg:w.grownBy w' row)(hr:∀r,row=some r→r≠A.m∧∃o:Obj,w.heap[r]?=some o∧o.isCells=false):St w' ρ P A f J:=by
 obtain⟨ja,jp,jj,h1,h2⟩:=h;have pj:∀r,row=some r→∃o:Obj,w.heap[r]?=some o∧o.isCells=false:=fun r e=>(hr r e).2;refine⟨ja,jp,jj,⟨fun k hk=>lL (h1.own k hk) hg.size,h1.hP.own hg pj,h1.rP,h1.hr.own hg pj,h1.rr,h1.hm.of (hg.block _ h1.hm.lt fun e=>(hr _ e.symm).1 rfl),h1.rm,h1.hc.own hg pj,h1.rc,h1.hd.own hg pj,h1.rd,fun b d hb=>?_,h1.no,h1.rs,h1.ds⟩,fun hl=>⟨fun g e=>⟨((h2 hl).arr g e).1.own hg pj,((h2 hl).arr g e).2⟩,(h2 hl).nil,(h2 hl).small,(h2 hl).len,fun i hi=>?_⟩⟩
 ·obtain⟨q,k1,k2,k3,j,k4⟩:=h1.nd b d hb
  exact⟨q,k1,k2,k3,j,k4.own hg pj⟩
 ·obtain⟨k1,k2,k3⟩:=(h2 hl).row i hi
  refine⟨k1,k2,?_⟩;cases e:(J.getD i jr0).2.2 with
  | none=>rw[e]at k3;exact k3
  | some d=>
   rw[e]at k3;obtain⟨q,a,junk,m1,m2,m3,m4⟩:=k3;exact⟨q,a,junk,m1,m2,m3,m4.own hg pj⟩
theorem Mv.own{X:Nat→Prop}{w0:World}{ρ0:Nat→Nat}{row:Option Nat}(h:Mv X w0 ρ0 w ρ)(hg:w.grownBy w' row)(hr:∀r,row=some r→w0.heap.size≤r):Mv X w0 ρ0 w' ρ:=
 ⟨⟨hg.os.trans h.frm.os,hg.tape.trans h.frm.tape,hg.output.trans h.frm.output,lT h.frm.size hg.size,fun k hk hn=>(hg.block k (lL hk h.frm.size) fun e=>by have:=hr k e.symm;omega).trans (h.frm.block k hk hn)⟩,h.rol⟩
def hZ(f:fZ)(b:Nat)(ks:List Nat):fZ:={f with cur:=iL (f.cur.set b (cu f b-1)) ks}
theorem yQ(ks:List Nat)(k:Nat):∀c:List Int,iL c (ks++[k])=(iL c ks).set k ((iL c ks).getD k 0+1):=by
 induction ks with
 | nil=>intro c;rfl
 | cons a ks ih=>intro c;exact ih _
theorem oZ(f:fZ)(b:Nat)(ks:List Nat)(k:Nat):hZ f b (ks++[k])=setC (hZ f b ks) k (cu (hZ f b ks) k+1):=by
 unfold hZ setC cu;simp only[yQ]
theorem zE(f:fZ)(b:Nat)(ks:List Nat):(hZ f b ks).cur.length=f.cur.length:=by simp[hZ,mK]
theorem aHI(f:fZ)(b:Nat):hZ f b []=setC f b (cu f b-1):=rfl
theorem Sz.mid{K:Int}{f:fZ}(h:Sz K f){b:Nat}(hb:1≤cu f b):∀ks:List Nat,Sz (K+ks.length) (hZ f b ks):=by
 intro ks;have key:∀l:List Nat,Sz (K+l.reverse.length) (hZ f b l.reverse):=fun l=>by
  induction l with
  | nil=>rw[List.reverse_nil,aHI];exact(h.setC b (by omega) (by have:=h.cb b;omega)).up (by simp)
  | cons a l ih=>
   rw[List.reverse_cons,oZ];have:=ih.cb a;refine(ih.up ?_).setC a (by omega) (by simp only[lP,List.length_cons,List.length_nil];omega);simp only[lP,List.length_cons,List.length_nil];omega
 simpa using key ks.reverse
theorem aED{f:fZ}{b:Nat}{d:Nd}(h1:cu f b≠1)(hd:f.nodes b=some d):letGo f b=hZ f b (kids d):=by
 unfold letGo;rw[if_neg h1,hd];rfl
theorem aHB{K:Int}(F:Fence)(n:Nat)(hW:∀{f:FuncId} {args:Array Value} {w:World} {R:Ending→World→Prop} {m:Nat},Calls Tryz.prog f args w R→CallsIn F m Tryz.prog f args w R)(o9:∀k,F.fn k)(cy:F.round=none)(hn:5≤n)
  (w:World) (ρ:Nat→Nat) (P:Nat) (A:Adr) (f:fZ) (J:List aQ) (b:Nat) (d:Nd) (h:St w ρ P A f J) (hz:Sz K f) (hK:K≤900000) (kz:J.length≤800000) (hb:f.nodes b=some d) (en:1≤cu f b) (pa:∀c∈kids d,c<f.cur.length) (Av:d.1=2→∀e∈d.2,0≤e.2.2):
  CallsIn F n Tryz.prog 135 #[.pointer (some ⟨P,0,none⟩),.int .i64 b] w fun e w'=>e=.returned (.tuple #[])∧∃ρ' J',St w' ρ' P (if cu f b=1 then gQ A b else A) (letGo f b) J'∧Mv (fun _=>False) w ρ w' ρ'∧JS 11 f J (letGo f b) J'∧Sz (K+10) (letGo f b):=by
 have nm:1≤n:=by omega
 have d5:b<f.cur.length:=hz.lt b d hb;have CR:(b:Int) <(f.cur.length:Int):=by omega
 have ft:d.2.length≤10:=hz.ent b d hb;obtain⟨ja,jp,jj,hR,hJ⟩:=id h;obtain⟨m3,m4,m5,m7⟩:=hR.cells;have jh:=hR.count d5;have DK:=hR.hP.lt;have au:=hR.hc.lt;refine callsIn_of_wp_marks Tryz.func135 rfl (o9 _) ?_ cy;simp only[Tryz.ntmps135,List.size_toArray,List.length_cons,List.length_nil,Nat.reduceAdd,Nat.reduceSub,Array.replicate_succ,Array.replicate_zero,List.push_toArray,List.append_toArray,List.nil_append,List.cons_append];have d9:Bl w (w.alloc (.cells #[.pointer (some ⟨P,0,none⟩)] 65)):=(bQ _ w).alloc (nR _) _;have br:=h.below d9;have it:=Boxed.new w 65 (.pointer (some ⟨P,0,none⟩));have io:(w.alloc (.cells #[.pointer (some ⟨P,0,none⟩)] 65)).heap.size=w.heap.size+1:=by simp
 by_cases hc:cu f b=1
 ·have hL:letGo f b=freeB f b:=by unfold letGo;rw[if_pos hc]
  rw[if_pos hc,hL];rw[hc]at jh;gi_wp2_with fail;refine(hW (aJI _ ρ P A f J b br hz (by omega) d5)).mono ?_;rintro e w2 ⟨rfl,ρ2,ax,lh⟩;gi_wp2;refine⟨.tuple #[],by simp[results,Tryz.f135,go_sem],rfl,ρ2,_,ax,(Mv.of_below d9).trans lh (fun _ _ e=>e),(JS.save d5).trans (JS.freeB Tch.saved) |>.up (by omega),?_⟩;exact((hz.setC b (v:=0) (by omega) (by have:=hz.cb b;omega)).noN b).up (by omega)
 ·rw[if_neg hc,aED hc hb]
  gi_wp2_with fail
  refine(hW (lR _ ρ P A f J b br hz d5 (by omega))).mono ?_;rintro e w2 ⟨rfl,ρ2,ax,lh,y8,-⟩;obtain⟨ja2,jp2,jj2,iu,ow⟩:=id ax;obtain⟨n3,n4,n5,n7⟩:=iu.cells;have JD:=iu.count d5;have Jd:w2.frozen? ⟨A.c,b,none⟩=false:=iu.hc.frozen b;have eu:Boxed w2 w.heap.size 65 (.pointer (some ⟨P,0,none⟩)):=(lh.frm.block _ it.lt (fun e=>e.elim (fun e=>e (Nat.eq_zero_of_not_pos fun q=>absurd (hR.own _ (by omega)) (Nat.lt_irrefl _))) (fun e=>e))).trans it;have QF:=eu.cell;obtain⟨cq,E0⟩:=ax.setC (b:=b) d5 (cu f b-1);obtain⟨ja3,jp3,jj3,mh,sy⟩:=id cq;have pp:=hz.cb b;have wj:IntKind.i64.wrap (cu f b-1)=cu f b-1:=IntWalk.i64_in _ ⟨by omega,by omega⟩;obtain⟨q,hφ,wn,wl,junk,hN⟩:=mh.nd b d hb;have gk:=mh.hm.lookup b (by have:=hz.n512;omega);rw[hφ]at gk;have o3:(w2.setCell ⟨A.c,b,none⟩ (.int .i64 (cu f b-1))).cell? ⟨P,3,none⟩=some (.map (some A.m)):=mh.cells.m3;have av:w.heap.size≠A.c:=by omega
  have ko:Boxed (w2.setCell ⟨A.c,b,none⟩ (.int .i64 (cu f b-1))) w.heap.size 65 (.pointer (some ⟨P,0,none⟩)):=(aX _ _ av).trans eu;have QG:=ko.cell;generalize yy:w2.setCell ⟨A.c,b,none⟩ (.int .i64 (cu f b-1))=w3 at *;simp only[eQ,Option.map_some]at gk;gi_wp2_with (gi_at_call 59;refine(kN F (n-1) (o9 _) cy _ _).mono ?_;rintro e w' ⟨rfl,rfl⟩);have XX:w.heap.size+1≤w2.heap.size:=by have:=lh.frm.size;omega
  have XZ:w3.heap.size=w2.heap.size:=by rw[←yy];exact cN (g:=A.c) [_] w2 b
  have SF:ρ2 w.heap.size=0:=by rw[lh.rol _ (by omega) (fun e=>e)];exact Nat.eq_zero_of_not_pos fun q=>absurd (hR.own _ (by omega)) (Nat.lt_irrefl _)
  have Yd:ρ2 w3.heap.size=0:=Nat.eq_zero_of_not_pos fun q=>absurd (mh.own _ (by omega)) (Nat.lt_irrefl _);have Eu:Mv (fun _=>False) w ρ w3 ρ2:=((Mv.of_below d9).trans lh (fun _ _ e=>e)).trans E0 (fun _ _ e=>e);have Pg:JS 1 f J (setC f b (cu f b-1)) (J++[(b,cu f b,f.nodes b)]):=(JS.save d5).trans (JS.setC _ Tch.saved);have dm:Bl w3 (w3.alloc (.cells #[.pointer (some ⟨q,0,none⟩)] 112)):=(bQ _ w3).alloc (nR _) _;have aw:=cq.below dm;have Dm:=hN.below dm;have kq:Boxed (w3.alloc (.cells #[.pointer (some ⟨q,0,none⟩)] 112)) w.heap.size 65 (.pointer (some ⟨P,0,none⟩)):=ko.alloc _;have Cs:IsC (w3.alloc (.cells #[.pointer (some ⟨q,0,none⟩)] 112)) w3.heap.size #[.pointer (some ⟨q,0,none⟩)] 112:=IsC.new _ _ _;have Ak:Mv (fun _=>False) w ρ (w3.alloc (.cells #[.pointer (some ⟨q,0,none⟩)] 112)) ρ2:=Eu.trans (Mv.of_below dm) (fun _ _ e=>e);have Rt:(w3.alloc (.cells #[.pointer (some ⟨q,0,none⟩)] 112)).heap.size=w3.heap.size+1:=by simp
  have Wi:A.m<w3.heap.size:=mh.hm.lt;clear gk o3 QG QF Jd JD n3 n4 n5 n7 iu ow hN ko eu cq sy Eu dm E0 lh ax y8;generalize Fk:w3.alloc (.cells #[.pointer (some ⟨q,0,none⟩)] 112)=w4 at *;have C2:q<w4.heap.size:=Dm.box.lt;refine jD cy nm (gf:=82) (lb:=#[.pointer (some ⟨w3.heap.size,0,none⟩)]) rfl (o9 _) (enters_of Tryz.func82 (by kernel_rfl) rfl)
   (jQ F (n-1) (o9 _) cy (by omega) w3.heap.size q d (A.α b) junk ft Av w4 Cs Dm) KpC.trans (KpC.put Cs.lt C2 (fun g e=>(Dm.arr g e).1.lt)) (bQ _ _) rfl
   (fun pre W=>(∃ρ1 J1,St W ρ1 P A (hZ f b pre) J1∧Mv (fun _=>False) w4 ρ2 W ρ1∧JS (1+pre.length) f J (hZ f b pre) J1)∧Boxed W w.heap.size 65 (.pointer (some ⟨P,0,none⟩)))
   ?_ ⟨⟨ρ2,_,aw,Mv.refl _ _ _,Pg⟩,kq⟩ ?_ ?_
  ·refine OwnFrom.and (fun pre X Y row hs hg hr=>?_) ((boxed_own _ _ _).from _)
   obtain⟨ρ1,J1,h1,h2,h3⟩:=hs;exact⟨ρ1,J1,h1.own hg fun r e=>⟨by have:=(hr r e).1;omega,(hr r e).2⟩,h2.own hg fun r e=>(hr r e).1,h3⟩
  ·intro l pre x W hi lg
   gi_wp2
   refine⟨trivial,?_⟩;clear hi;rintro W ⟨⟨ρ1,J1,h1,h2,h3⟩,bo⟩;have Xg:x∈kids d:=lg.subset (by simp);have Xf:x<f.cur.length:=pa x Xg;have qi:pre.length+1≤10:=by have:=lg.length_le;have:=sC d;simp at *;omega
   have UF:Sz (K+pre.length) (hZ f b pre):=hz.mid en pre;have GS:x <(hZ f b pre).cur.length:=by rw[zE];exact Xf
   have ms:=bo.cell;gi_wp2_with fail;refine⟨fun _=>by omega,(CallsIn.inRound l (hW (lR _ ρ1 P A (hZ f b pre) J1 x h1 UF GS (by have:=h3.len;omega)))).mono ?_⟩;rintro e W2 ⟨rfl,ρ3,cw,ng,y8,CU⟩;obtain⟨ja5,jp5,jj5,CK,Et⟩:=id cw;obtain⟨n3,n4,n5,n7⟩:=CK.cells;rw[zE]at n4;have V5:=CK.count GS;have MY:W2.frozen? ⟨A.c,x,none⟩=false:=CK.hc.frozen x;have KI:∀k,k<w4.heap.size→ρ1 k=ρ2 k:=fun k hk=>h2.rol k hk fun e=>e;have Rj:ρ1 w.heap.size=0:=by rw[KI _ (by omega)];exact SF
   have rf:Boxed W2 w.heap.size 65 (.pointer (some ⟨P,0,none⟩)):=(CU.block _ bo.lt (by rw[Rj];omega)).trans bo;have Vt:=rf.cell;have OX:(x:Int) <(f.cur.length:Int):=by omega
   have V4:=UF.cb x;have wj:IntKind.i64.wrap (cu (hZ f b pre) x+1)=cu (hZ f b pre) x+1:=IntWalk.i64_in _ ⟨by omega,by omega⟩;obtain⟨la,TS⟩:=cw.setC (b:=x) GS (cu (hZ f b pre) x+1);rw[←oZ]at la;have FZ:JS (1+pre.length+1+0) f J (hZ f b (pre++[x])) (J1++[(x,cu (hZ f b pre) x,(hZ f b pre).nodes x)]):=by
    rw[oZ];exact(h3.trans (JS.save GS)).trans (JS.setC _ Tch.saved)
   have vi:KpC w3.heap.size q (A.α b) W (W2.setCell ⟨A.c,x,none⟩ (.int .i64 (cu (hZ f b pre) x+1))):=by
    have EN:ρ1 A.c=4:=by obtain⟨_,_,_,hh,_⟩:=h1;exact hh.rc
    have hk:∀k,k<w4.heap.size→ρ2 k≠1→ρ2 k≠6→ρ2 k≠4→(W2.setCell ⟨A.c,x,none⟩ (.int .i64 (cu (hZ f b pre) x+1))).heap[k]?=W.heap[k]?:=fun k hk e1 e2 e3=>by
     rw[aX W2 _ (fun e=>e3 (by rw[←KI k hk,e,EN])),CU.block k (lL hk h2.frm.size) (by rw[KI k hk];omega)]
    refine⟨lT CU.size (Nat.le_of_eq (cN (g:=A.c) [_] W2 x).symm),hk _ Cs.lt (by omega) (by omega) (by omega),hk q C2 ?_ ?_ ?_,fun g e=>hk g (Dm.arr g e).1.lt ?_ ?_ ?_⟩
    ·rw[wn];unfold cE;omega
    ·rw[wn];unfold cE;omega
    ·rw[wn];unfold cE;omega
    ·rw[wl g e];unfold cB;omega
    ·rw[wl g e];unfold cB;omega
    ·rw[wl g e];unfold cB;omega
   have qe:Boxed (W2.setCell ⟨A.c,x,none⟩ (.int .i64 (cu (hZ f b pre) x+1))) w.heap.size 65 (.pointer (some ⟨P,0,none⟩)):=(aX _ _ av).trans rf;have BM:=(h2.trans ng (fun _ _ e=>e)).trans TS (fun _ _ e=>e);have HF:=aA (aI la (aI FZ (aI vi (aI qe BM))));clear la FZ vi qe BM TS h1 h2 h3 cw ng CK Et bo rf;gi_wp2;obtain⟨la,FZ,vi,qe,BM⟩:=HF.out;exact⟨(y8.trans (KeepsOthers.setCell _ _ _)).from _,vi,⟨ρ3,_,la,BM,FZ.up (by simp only[lP,List.length_cons,List.length_nil];omega)⟩,qe⟩
  ·rintro D W hD ⟨⟨ρ1,J1,h1,h2,h3⟩,bo⟩ hK
   gi_wp2
   have bm:W.grownBy (W.putObj D (.deferred none)) (some D):=grownBy_putObj' W D _;refine⟨by simp,.inl ⟨_,_,rfl,run_takeDeferred hK,?_⟩⟩;have mx:=sC d;refine⟨.tuple #[],by simp[results,Tryz.f135,go_sem],rfl,ρ1,J1,h1.own bm fun r e=>?_,?_,h3.up (by omega),(hz.mid en (kids d)).up (by omega)⟩
   ·cases e;exact⟨by omega,_,hK,rfl⟩
   ·exact(Ak.trans h2 (fun _ _ e=>e)).own bm fun r e=>by cases e;have:=Ak.frm.size;omega
theorem nU{K:Int}(w:World)(ρ:Nat→Nat)(P:Nat)(A:Adr)(f:fZ)(J:List aQ)(b:Nat)(d:Nd)(h:St w ρ P A f J)(hz:Sz K f)(hK:K≤900000)(kz:J.length≤800000)(hb:f.nodes b=some d)(en:1≤cu f b)(pa:∀c∈kids d,c<f.cur.length)(Av:d.1=2→∀e∈d.2,0≤e.2.2):
  Calls Tryz.prog 135 #[.pointer (some ⟨P,0,none⟩),.int .i64 b] w fun e w'=>e=.returned (.tuple #[])∧∃ρ' J',St w' ρ' P (if cu f b=1 then gQ A b else A) (letGo f b) J'∧Mv (fun _=>False) w ρ w' ρ'∧JS 11 f J (letGo f b) J'∧Sz (K+10) (letGo f b):=
 (callsIn_wide (n:=5)).1 (aHB Fence.wide 5 (fun h=>callsIn_wide.2 h) (fun _=>trivial) rfl (nR _) w ρ P A f J b d h hz hK kz hb en pa Av)
end Go.Proofs.YtaahkgkdpnnhhaaGreat
namespace Go.Proofs.YtaahkgkdpnnhhaaGreat
open Go.RowKit Fo
theorem aEN:∀(es:List E3) (i j:Nat) (e':E3) (v:Value),i<es.length→j<3→aJ e'=(aJ (es.getD i e0)).set j v→(bW es).setIfInBounds (i*3+j) v=bW (es.set i e'):=by
 have key:∀(es:List E3) (i j:Nat) (e':E3) (v:Value),i<es.length→j<3→aJ e'=(aJ (es.getD i e0)).set j v→(es.flatMap aJ).set (i*3+j) v=(es.set i e').flatMap aJ:=by
  intro es;induction es with
  | nil=>intro i j e' v hi;simp at hi
  | cons e es ih=>
   intro i j e' v hi hj he;have l3:(aJ e).length=3:=rfl;cases i with
   | zero=>
    simp only[List.getD_cons_zero]at he;simp only[List.flatMap_cons,List.set_cons_zero,Nat.zero_mul,Nat.zero_add];rw[List.set_append_left _ _ (by rw[l3];exact hj),he]
   | succ i=>
    simp only[List.getD_cons_succ]at he;simp only[List.flatMap_cons,List.set_cons_succ];rw[List.set_append_right _ _ (by rw[l3];omega),l3,show(i+1)*3+j-3=i*3+j by omega,ih i j e' v (by simpa using hi) hj he]
 intro es i j e' v hi hj he;unfold bW;rw[←key es i j e' v hi hj he];simp
theorem aHP(l:List (Int×Int))(t:Nat)(q:Int)(ht:t<l.length):(cT l).setIfInBounds (t*2+1) (.int .i64 q)=cT (l.set t ((l.getD t (0,0)).1,q)):=by
 have key:∀(l:List (Int×Int)) (t:Nat),t<l.length→(l.flatMap aT).set (t*2+1) (.int .i64 q)=(l.set t ((l.getD t (0,0)).1,q)).flatMap aT:=by
  intro l;induction l with
  | nil=>intro t ht;simp at ht
  | cons e l ih=>
   intro t ht;have l2:(aT e).length=2:=rfl;cases t with
   | zero=>simp[aT]
   | succ t=>
    simp only[List.flatMap_cons,List.set_cons_succ,List.getD_cons_succ];rw[List.set_append_right _ _ (by rw[l2];omega),l2,show(t+1)*2+1-2=t*2+1 by omega,ih t (by simpa using ht)]
 unfold cT;rw[←key l t ht];simp
variable {w w' : World} {ρ : Nat → Nat} {P : Nat} {A : Adr} {f : fZ} {J : List aQ} {jv : Value}
def gV(A:Adr):Fo.Loc→Addr→Prop
 | .inl t,p=>p=⟨A.ra,t*2+1,none⟩
 | .inr (b,i),p=>∃g,A.α b=some g∧p=⟨g,i*3+2,none⟩
theorem aM.setc{q g:Nat}{k:Int}{es junk:List E3}(h:aM w q (k,es) (Option.some g) junk){i j:Nat}{e':E3}{v:Value}(hi:i<es.length)(hj:j<3)(he:aJ e'=(aJ (es.getD i e0)).set j v):aM (w.setCell ⟨g,i*3+j,none⟩ v) q (k,es.set i e') (Option.some g) junk:=by
 obtain⟨h1,h2⟩:=h.arr g rfl;refine⟨by simpa using h.box.set_ne (p:=⟨g,i*3+j,none⟩) v (Ne.symm h2),fun g' e=>?_,fun e=>(by cases e),by simpa using h.small⟩;cases e;refine⟨?_,h2⟩;have:=h1.set (i*3+j) v;rw[aEN _ i j e' v (by simp;omega) hj (by
  rw[he,gD,gD,List.getElem?_append_left hi])]at this
 rw[List.set_append_left _ _ hi]at this;exact this
theorem aEL(h:Rp w ρ P A f jv){b:Nat}{d:Nd}(hb:f.nodes b=some d):jC ρ (A.α b) b=ρ:=by
 obtain⟨q,e1,e2,e3,_⟩:=h.nd b d hb;funext k;by_cases e:A.α b=some k
 ·simp[jC,e,e3 k e]
 ·exact xE e
theorem aDD(A:Adr)(b:Nat):dO A b (A.α b)=A:=by
 have:upd A.α b (A.α b)=A.α:=funext fun x=>by by_cases e:x=b<;>simp[upd,e]
 unfold dO;rw[this]
theorem St.nodeSame(h:St w ρ P A f J){b q:Nat}{d d':Nd}(hb:f.nodes b=some d)(hφ:A.φ b=some q){junk':List E3}(k:Frm (fun x=>x=q∨A.α b=some x) w w')(hN:aM w' q d' (A.α b) junk'):St w' ρ P A (setN f b d') J∧Mv (fun _=>False) w ρ w' ρ:=by
 obtain⟨_,_,_,hR,_⟩:=id h;have:=h.node hb hφ k hN (fun g e=>.inl e);rw[aEL hR hb,aDD]at this;exact this
theorem St.getNode(h:St w ρ P A f J){b:Nat}{d:Nd}(hb:f.nodes b=some d):∃q junk,A.φ b=some q∧ρ q=cE b∧(∀g,A.α b=some g→ρ g=cB b)∧aM w q d (A.α b) junk:=by
 obtain⟨_,_,_,hR,_⟩:=h;obtain⟨q,e1,e2,e3,j,e4⟩:=hR.nd b d hb;exact⟨q,j,e1,e2,e3,e4⟩
theorem St.getLoc(h:St w ρ P A f J)(hI:IC f){L:Fo.Loc}(hL:dR f L){p:Addr}(hp:gV A L p):w.cell? p=some (.int .i64 (bI f L))∧w.frozen? p=false:=by
 obtain⟨_,_,_,hR,_⟩:=id h;cases L with
 | inl t=>
  subst hp;have ht:t<f.roots.length:=hL;have hm:f.roots.getD t (0,0)∈f.roots:=by rw[gD,gE ht];exact List.getElem_mem _
  refine⟨?_,hR.hr.frozen _⟩;rw[hR.hr.cell,(lB (f.roots++A.rj) (i:=t) (by simp;omega)).2];have e1:(f.roots++A.rj).getD t (0,0)=f.roots.getD t (0,0):=by rw[gD,List.getElem?_append_left ht,←gD]
  rw[e1];simp only[bI];have:=(hI.rb _ hm).1;rw[show(((f.roots.getD t (0,0)).2.toNat:Nat):Int)=(f.roots.getD t (0,0)).2 by omega]
 | inr bi=>
  obtain⟨b,i⟩:=bi;obtain⟨g,hg,rfl⟩:=hp;obtain⟨hb,es,af,hi⟩:=hL;obtain⟨q,junk,e1,e2,e3,e4⟩:=h.getNode af;rw[hg]at e4;have D2:=(e4.arr g rfl).1;refine⟨?_,D2.frozen _⟩;have ew:i <(es++junk).length:=by simp;omega
  rw[(bG D2 ew).2.2];have e5:(es++junk).getD i e0=es.getD i e0:=by rw[gD,List.getElem?_append_left hi,←gD]
  simp only
  rw[e5];simp only[bI,aE af,ch];have hm:es.getD i e0∈es:=by rw[gD,gE hi];exact List.getElem_mem _
  have:=hI.kb b _ af
  rcases this with h1 | ⟨_,_,h3⟩
  ·simp at h1
  ·have:=(h3 _ hm).1
   rw[show(((es.getD i e0).2.2.toNat:Nat):Int)=(es.getD i e0).2.2 by omega]
theorem St.setLoc(h:St w ρ P A f J){L:Fo.Loc}(hL:dR f L){p:Addr}(hp:gV A L p)(q:Nat):St (w.setCell p (.int .i64 (q:Int))) ρ P A (setL f L q) J∧Mv (fun _=>False) w ρ (w.setCell p (.int .i64 (q:Int))) ρ:=by
 cases L with
 | inl t=>
  subst hp;have ht:t<f.roots.length:=hL;have hc:ρ A.ra=2:=by obtain⟨_,_,_,h1,_⟩:=h;exact h1.rr
  have k:Frm (fun x=>x=A.ra) w (w.setCell ⟨A.ra,t*2+1,none⟩ (.int .i64 (q:Int))):=Frm.set (S:=fun x=>x=A.ra) w (p:=⟨A.ra,t*2+1,none⟩) rfl _;refine⟨h.of k (fun x e=>by rw[e,hc];exact aCP.2) (fun _ _ _=>rfl) fun jv hR=>?_,k.wide (fun x _ e=>.inl (by rw[e,hc];omega)),fun _ _ _=>rfl⟩;have no:∀{x r},ρ x=r→r≠2→¬x=A.ra:=fun {x r} e hr q=>hr (by rw[←e,q,hc]);refine hR.gen (Kp.same hR k) (.inl ⟨no hR.rP (by omega),?_⟩) (.inr ⟨?_,hc⟩) (.inl ⟨no hR.rm (by omega),rfl⟩) rfl (.inl ⟨no hR.rc (by omega),rfl⟩) rfl (.inl ⟨no hR.rd (by omega),rfl,rfl⟩) (fun x d hx=>.inl ⟨hx,rfl,rfl,fun y hy=>?_⟩) hR.no (by simpa [setL] using hR.rs) hR.ds
  ·simp[dE,setL]
  ·have:=hR.hr.set (t*2+1) (.int .i64 (q:Int))
   rw[aHP _ t q (by simp;omega)]at this;have e1:(f.roots++A.rj).getD t (0,0)=f.roots.getD t (0,0):=by rw[gD,List.getElem?_append_left ht,←gD]
   rw[e1,List.set_append_left _ _ ht]at this;exact this
  ·rcases hy with e | e
   ·exact no e (by unfold cE;omega)
   ·exact no e (by unfold cB;omega)
 | inr bi=>
  obtain⟨b,i⟩:=bi;obtain⟨g,hg,rfl⟩:=hp;obtain⟨hb,es,af,hi⟩:=hL;obtain⟨qq,junk,e1,e2,e3,e4⟩:=h.getNode af;rw[hg]at e4;have hN:=e4.setc (v:=.int .i64 (q:Int)) (e':=((es.getD i e0).1,(es.getD i e0).2.1,(q:Int))) hi (by omega:2<3) (by simp[aJ]);have:=h.nodeSame (w':=w.setCell ⟨g,i*3+2,none⟩ (.int .i64 (q:Int))) af e1 (Frm.set w (p:=⟨g,i*3+2,none⟩) (.inr hg) _) (by rw[hg];exact hN);have e5:setL f (.ent b i) q=setN f b (2,es.set i ((es.getD i e0).1,(es.getD i e0).2.1,(q:Int))):=by simp[setL,setE,aE af]
  rw[e5];exact this
