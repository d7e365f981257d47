import Derived.Test.YtaahkgkdpnnhhaaGreatFf1
set_option maxHeartbeats 9999999
set_option maxRecDepth 99999
set_option linter.all false
namespace Go.Proofs.YtaahkgkdpnnhhaaGreat
open Go.RowKit Fo
section
variable (w : World)
theorem r0:(Instr.build 77 #[(0,.int .i64 0),(1,.int .i64 2)]).run Tryz.prog w=.ok (.agg #[.int .i64 0,.int .i64 2]) w:=by kernel_rfl
theorem r1:(Instr.buildSlice 55 1 #[(0,.agg #[.int .i64 0,.int .i64 2])]).run Tryz.prog w=.ok (.slice (some ⟨w.heap.size,0,none⟩) 1 1) (w.alloc (.cells #[.int .i64 0,.int .i64 2] 77)):=by kernel_rfl
theorem r2:(Instr.makeMap 68 none).run Tryz.prog w=.ok (.map (some w.heap.size)) (w.alloc (.map #[] 0)):=rfl
theorem r3:(Instr.build 108 #[(0,.int .i64 1)]).run Tryz.prog w=.ok (.agg #[.int .i64 1,.slice none 0 0]) w:=by kernel_rfl
theorem r4:(Instr.box 108 (.agg #[.int .i64 1,.slice none 0 0])).run Tryz.prog w=.ok (.pointer (some ⟨w.heap.size,0,none⟩)) (w.alloc (.cells #[.int .i64 1,.slice none 0 0] 108)):=by kernel_rfl
theorem r8(n:Nat)(hn:n≤512):(Instr.makeSlice 24 (.int .i64 (n:Int)) (.int .i64 (n:Int))).run Tryz.prog w=.ok (.slice (some ⟨w.heap.size,0,none⟩) n n) (w.alloc (.cells (cY (List.replicate n 0)) 2)):=by
 have h:=run_make_row' (P:=Tryz.prog) 24 2 (.int .i64 0) 8 Tryz.underlying24 tE rfl .i64 .i64 n (by omega) (by omega) w;have e:madeCells #[.int .i64 0] n=cY (List.replicate n 0):=by
  apply Array.toList_inj.1
  rw[toList_madeCells_one];simp[cY]
 rw[e]at h;exact h
theorem r11:(Instr.buildSlice 24 1 #[(0,.int .i64 3)]).run Tryz.prog w=.ok (.slice (some ⟨w.heap.size,0,none⟩) 1 1) (w.alloc (.cells #[.int .i64 3] 2)):=by kernel_rfl
theorem r12(r m c d q n:Nat):(Instr.build 71 #[(0,.slice (some ⟨r,0,none⟩) 1 1),(1,.int .i64 1),(2,.int .i64 1),(3,.map (some m)),(4,.slice (some ⟨c,0,none⟩) n n),(5,.slice (some ⟨d,0,none⟩) n n),(6,.slice (some ⟨q,0,none⟩) 1 1)]).run Tryz.prog w=.ok (.agg #[.slice (some ⟨r,0,none⟩) 1 1,.int .i64 1,.int .i64 1,.map (some m),.slice (some ⟨c,0,none⟩) n n,.slice (some ⟨d,0,none⟩) n n,.slice (some ⟨q,0,none⟩) 1 1,.slice none 0 0]) w:=by kernel_rfl
theorem r13(r m c d q n:Nat):(Instr.box 71 (.agg #[.slice (some ⟨r,0,none⟩) 1 1,.int .i64 1,.int .i64 1,.map (some m),.slice (some ⟨c,0,none⟩) n n,.slice (some ⟨d,0,none⟩) n n,.slice (some ⟨q,0,none⟩) 1 1,.slice none 0 0])).run Tryz.prog w=.ok (.pointer (some ⟨w.heap.size,0,none⟩)) (w.alloc (.cells #[.slice (some ⟨r,0,none⟩) 1 1,.int .i64 1,.int .i64 1,.map (some m),.slice (some ⟨c,0,none⟩) n n,.slice (some ⟨d,0,none⟩) n n,.slice (some ⟨q,0,none⟩) 1 1,.slice none 0 0] 71)):=by kernel_rfl
end
theorem dH{P:Program}{o:Oper}{a:Act}{w w':World}{v:Value}{K:Act→World→Prop}{Q:Exit→Act→World→Prop}(h:(execOp a.eval o).run P w=.ok (.value v) w')(hK:K (a.put o.dst v) w'):o.wp P a w K Q:=by
 unfold Oper.wp;rw[h];exact hK
theorem aJT{P:Program}{o:Oper}{a:Act}{w w':World}{K:Act→World→Prop}{Q:Exit→Act→World→Prop}(h:(execOp a.eval o).run P w=.ok .skip w')(hK:K (a.put o.dst undef) w'):o.wp P a w K Q:=by
 unfold Oper.wp;rw[h];exact hK
theorem zK{b b':Nat}{n:Nat}(h:b≠b'):Value.slice (some ⟨b,0,none⟩) n n≠Value.slice (some ⟨b',0,none⟩) n n:=fun e=>by
 simp only[Value.slice.injEq,sJ,Addr.mk.injEq,and_true]at e;exact h e
theorem aME(a:Array Value)(h:a.size=33):∃x0 x1 x2 x3 x4 x5 x6 x7 x8 x9 x10 x11 x12 x13 x14 x15 x16 x17 x18 x19 x20 x21 x22 x23 x24 x25 x26 x27 x28 x29 x30 x31 x32,a=#[x0,x1,x2,x3,x4,x5,x6,x7,x8,x9,x10,x11,x12,x13,x14,x15,x16,x17,x18,x19,x20,x21,x22,x23,x24,x25,x26,x27,x28,x29,x30,x31,x32]:=by
 obtain⟨l⟩:=a;have h':l.length=33:=by simpa using h
 clear h;rcases l with _ | ⟨x0,_ | ⟨x1,_ | ⟨x2,_ | ⟨x3,_ | ⟨x4,_ | ⟨x5,_ | ⟨x6,_ | ⟨x7,_ | ⟨x8,_ | ⟨x9,_ | ⟨x10,_ | ⟨x11,_ | ⟨x12,_ | ⟨x13,_ | ⟨x14,_ | ⟨x15,_ | ⟨x16,_ | ⟨x17,_ | ⟨x18,_ | ⟨x19,_ | ⟨x20,_ | ⟨x21,_ | ⟨x22,_ | ⟨x23,_ | ⟨x24,_ | ⟨x25,_ | ⟨x26,_ | ⟨x27,_ | ⟨x28,_ | ⟨x29,_ | ⟨x30,_ | ⟨x31,_ | ⟨x32,_ | ⟨y,l⟩⟩⟩⟩⟩⟩⟩⟩⟩⟩⟩⟩⟩⟩⟩⟩⟩⟩⟩⟩⟩⟩⟩⟩⟩⟩⟩⟩⟩⟩⟩⟩⟩⟩
 all_goals first | exact⟨_,_,_,_,_,_,_,_,_,_,_,_,_,_,_,_,_,_,_,_,_,_,_,_,_,_,_,_,_,_,_,_,_,rfl⟩ | (simp at h')
def aJP(n:Nat):List Int:=((List.replicate n 0).set 2 1).set 3 1
def aLJ(n:Nat):List Int:=(List.replicate n 0).set 2 1
structure aCP(B n:Nat)(w:World)(f r m p c d q:Nat):Prop where
 fst:w.heap[f]?=some (.cells #[.slice (some ⟨r,0,none⟩) 1 1,.int .i64 1,.int .i64 1,.map (some m),.slice (some ⟨c,0,none⟩) n n,.slice (some ⟨d,0,none⟩) n n,.slice (some ⟨q,0,none⟩) 1 1,.slice none 0 0] 71 (0,0))
 root:w.heap[r]?=some (.cells #[.int .i64 0,.int .i64 2] 77 (0,0))
 map:aIU w m p
 node:w.heap[p]?=some (.cells #[.int .i64 1,.slice none 0 0] 108 (0,0))
 cur:w.heap[c]?=some (.cells (cY (aLJ n)) 2 (0,0))
 com:w.heap[d]?=some (.cells (cY (aJP n)) 2 (0,0))
 tab:w.heap[q]?=some (.cells #[.int .i64 3] 2 (0,0))
 hf:B≤f
 hr:B≤r
 hm:B≤m
 hp:B≤p
 hc:B≤c
 hd:B≤d
 hq:B≤q
 cd:c≠d
theorem qG(n:Nat)(hn:8≤n∧n≤512)(w:World):
  Calls Tryz.prog 56 #[.int .i64 n] w fun e w'=>∃f r m p c d q,e=.returned (.pointer (some ⟨f,0,none⟩))∧aCP w.heap.size n w' f r m p c d q∧Bl w w':=by
 go_enter Tryz.func56,Tryz.ntmps56
 go_wp2_with fail
 refine wp_region_any (by kernel_rfl) ?_;refine aEA (FI w n) ?step ?fin (aCA (aFO (by kernel_rfl))) _ _ _ _ (by simp) ?cl (by kernel_rfl) ?ini
 case cl=>intro k hk;exfalso;simp[Array.getElem?_replicate]at hk;split at hk<;>simp at hk
 case ini=>
  refine⟨rfl,rfl,rfl,(bQ _ _).drew,fun k hk=>?_,fun hk=>?_⟩
  ·exfalso;simp[Array.getElem?_replicate]at hk;split at hk<;>simp at hk
  ·exfalso;simp at hk
 case step=>
  intro l a w1 hs hcl hI i o ho hnt hnf hd;have hs15:l.size=15:=hs;have hi15:i<15:=by
   by_cases hh:i<15
   ·exact hh
   ·rw[Array.getElem?_eq_none (by simpa using Nat.le_of_not_lt hh)]at ho;cases ho
  have ho0:=ho;have hB:=hI.below.size;match i,hi15 with
  | 0,_=>
   simp only[List.getElem?_toArray,List.getElem?_cons_zero,sJ]at ho;subst ho;refine dV ho0 rfl (dH (v:=.agg #[.int .i64 0,.int .i64 2]) (w':=w1) (by simp only[execOp,Act.eval,List.map_toArray,List.map_cons,List.map_nil,Sem.run_bind,Sem.run_pure,Result.andThen_ok,r0]) ?_);exact hI.next (by kernel_rfl) hcl ho0 (by omega) hs15 hnf (by omega) 4 rfl (by omega) (by omega) _ _ (bQ _ _) (rfl) (hI.apart_keep 0 4 _ (by omega) (by omega) (by omega) (by omega))
  | 1,_=>
   simp only[iA,iB,iC,sJ]at ho;subst ho;have l0:l.getD 0 false=true:=hd {on:=0,ground:=.data} (by simp) rfl;have f0:a.tmps.getD 4 undef=.agg #[.int .i64 0,.int .i64 2]:=hI.facts 0 l0;refine dV ho0 rfl (dH (v:=.slice (some ⟨w1.heap.size,0,none⟩) 1 1) (w':=(w1.alloc (.cells #[.int .i64 0,.int .i64 2] 77))) (by simp only[execOp,Act.eval,List.map_toArray,List.map_cons,List.map_nil,Sem.run_bind,Sem.run_pure,Result.andThen_ok,f0,r1]) ?_);exact hI.next (by kernel_rfl) hcl ho0 (by omega) hs15 hnf (by omega) 5 rfl (by omega) (by omega) _ _ (iK w1 _) (⟨_,rfl,hB,heap_alloc_new w1 _⟩) (hI.apart_keep 1 5 _ (by omega) (by omega) (by omega) (by omega))
  | 2,_=>
   simp only[iA,iB,iC,sJ]at ho;subst ho;refine dV ho0 rfl (dH (v:=.map (some w1.heap.size)) (w':=(w1.alloc (.map #[] 0))) (by simp only[execOp,Option.map_none,Sem.run_bind,Sem.run_pure,Result.andThen_ok,r2]) ?_);exact hI.next (by kernel_rfl) hcl ho0 (by omega) hs15 hnf (by omega) 6 rfl (by omega) (by omega) _ _ (iK w1 _) (⟨_,rfl,hB,⟨_,_,heap_alloc_new w1 _⟩,fun _=>heap_alloc_new w1 _⟩) (hI.apart_keep 2 6 _ (by omega) (by omega) (by omega) (by omega))
  | 3,_=>
   simp only[iA,iB,iC,sJ]at ho;subst ho;refine dV ho0 rfl (dH (v:=.agg #[.int .i64 1,.slice none 0 0]) (w':=w1) (by simp only[execOp,Act.eval,List.map_toArray,List.map_cons,List.map_nil,Sem.run_bind,Sem.run_pure,Result.andThen_ok,r3]) ?_);exact hI.next (by kernel_rfl) hcl ho0 (by omega) hs15 hnf (by omega) 7 rfl (by omega) (by omega) _ _ (bQ _ _) (rfl) (hI.apart_keep 3 7 _ (by omega) (by omega) (by omega) (by omega))
  | 4,_=>
   simp only[iA,iB,iC,sJ]at ho;subst ho;have l3:l.getD 3 false=true:=hd {on:=3,ground:=.data} (by simp) rfl;have f3:a.tmps.getD 7 undef=.agg #[.int .i64 1,.slice none 0 0]:=hI.facts 3 l3;refine dV ho0 rfl (dH (v:=.pointer (some ⟨w1.heap.size,0,none⟩)) (w':=(w1.alloc (.cells #[.int .i64 1,.slice none 0 0] 108))) (by simp only[execOp,Act.eval,Sem.run_bind,Sem.run_pure,Result.andThen_ok,f3,r4]) ?_);exact hI.next (by kernel_rfl) hcl ho0 (by omega) hs15 hnf (by omega) 8 rfl (by omega) (by omega) _ _ (iK w1 _) (⟨_,rfl,hB,heap_alloc_new w1 _⟩) (hI.apart_keep 4 8 _ (by omega) (by omega) (by omega) (by omega))
  | 5,_=>
   simp only[iA,iB,iC,sJ]at ho;subst ho;have l2:l.getD 2 false=true:=hd {on:=2,ground:=.data} (by simp) rfl;have l4:l.getD 4 false=true:=hd {on:=4,ground:=.data} (by simp) rfl;obtain⟨m,f6,hm,_,he⟩:=hI.facts 2 l2;obtain⟨p,f8,_⟩:=hI.facts 4 l4;have he':=he hnf;obtain⟨w2,hr,hN,hu⟩:=aIW (p:=p) he';simp only at f6 f8;refine dV ho0 rfl (aJT (w':=w2) (by simp only[execOp,Act.eval,f6,f8,hr,Sem.run_bind,Sem.run_pure,Result.andThen_ok]) ?_);exact hI.ins (ops:=#[]) hs15 hnf w2 m p f6 f8 hm hN hu he'
  | 6,_=>
   simp only[iA,iB,iC,sJ]at ho;subst ho;have l2:l.getD 2 false=true:=hd {on:=2,ground:=.data} (by simp) rfl;obtain⟨m,f6,_⟩:=hI.facts 2 l2;simp only at f6;refine dV ho0 rfl (dH (v:=.map (some m)) (w':=w1) (by simp only[execOp,Act.eval,Sem.run_pure,f6]) ?_);exact hI.next (by kernel_rfl) hcl ho0 (by omega) hs15 hnf (by omega) 9 rfl (by omega) (by omega) _ _ (bQ _ _) (by show(_:Value)=_;simpa using f6.symm) (hI.apart_keep 6 9 _ (by omega) (by omega) (by omega) (by omega))
  | 7,_=>
   simp only[iA,iB,iC,sJ]at ho;subst ho;have fa:=hI.arg;refine dV ho0 rfl (dH (v:=.int .i64 n) (w':=w1) (by simp only[execOp,Act.eval,Sem.run_pure,fa]) ?_);exact hI.next (by kernel_rfl) hcl ho0 (by omega) hs15 hnf (by omega) 10 rfl (by omega) (by omega) _ _ (bQ _ _) (rfl) (hI.apart_keep 7 10 _ (by omega) (by omega) (by omega) (by omega))
  | 8,_=>
   simp only[iA,iB,iC,sJ]at ho;subst ho;have l7:l.getD 7 false=true:=hd {on:=7,ground:=.data} (by simp) rfl;have f7:a.tmps.getD 10 undef=.int .i64 n:=hI.facts 7 l7;refine dV ho0 rfl (dH (v:=.slice (some ⟨w1.heap.size,0,none⟩) n n) (w':=(w1.alloc (.cells (cY (List.replicate n 0)) 2))) (by simp only[execOp,Act.eval,Sem.run_bind,Sem.run_pure,Result.andThen_ok,f7,r8 _ n hn.2]) ?_);exact hI.next (by kernel_rfl) hcl ho0 (by omega) hs15 hnf (by omega) 11 rfl (by omega) (by omega) _ _ (iK w1 _) (⟨_,rfl,hB,heap_alloc_new w1 _⟩) (fun _ h10=>by
    rw[getD_set_ne false (show(8:Nat)≠10 by omega)]at h10;obtain⟨d,f13,_,hd2⟩:=hI.facts 10 h10;have f13':a.tmps.getD 13 undef=.slice (some ⟨d,0,none⟩) n n:=f13;rw[if_pos rfl,if_neg (by omega),f13'];exact zK (fun e=>by have:=(Array.getElem?_eq_some_iff.1 hd2).1;omega))
  | 9,_=>
   simp only[iA,iB,iC,sJ]at ho;subst ho;have fa:=hI.arg;refine dV ho0 rfl (dH (v:=.int .i64 n) (w':=w1) (by simp only[execOp,Act.eval,Sem.run_pure,fa]) ?_);exact hI.next (by kernel_rfl) hcl ho0 (by omega) hs15 hnf (by omega) 12 rfl (by omega) (by omega) _ _ (bQ _ _) (rfl) (hI.apart_keep 9 12 _ (by omega) (by omega) (by omega) (by omega))
  | 10,_=>
   simp only[iA,iB,iC,sJ]at ho;subst ho;have l9:l.getD 9 false=true:=hd {on:=9,ground:=.data} (by simp) rfl;have f9:a.tmps.getD 12 undef=.int .i64 n:=hI.facts 9 l9;refine dV ho0 rfl (dH (v:=.slice (some ⟨w1.heap.size,0,none⟩) n n) (w':=(w1.alloc (.cells (cY (List.replicate n 0)) 2))) (by simp only[execOp,Act.eval,Sem.run_bind,Sem.run_pure,Result.andThen_ok,f9,r8 _ n hn.2]) ?_);exact hI.next (by kernel_rfl) hcl ho0 (by omega) hs15 hnf (by omega) 13 rfl (by omega) (by omega) _ _ (iK w1 _) (⟨_,rfl,hB,heap_alloc_new w1 _⟩) (fun h8 _=>by
    rw[getD_set_ne false (show(10:Nat)≠8 by omega)]at h8;obtain⟨c,f11,_,hc2⟩:=hI.facts 8 h8;have f11':a.tmps.getD 11 undef=.slice (some ⟨c,0,none⟩) n n:=f11;rw[if_neg (by omega),if_pos rfl,f11'];exact zK (fun e=>by have:=(Array.getElem?_eq_some_iff.1 hc2).1;omega))
  | 11,_=>
   simp only[iA,iB,iC,sJ]at ho;subst ho;refine dV ho0 rfl (dH (v:=.slice (some ⟨w1.heap.size,0,none⟩) 1 1) (w':=(w1.alloc (.cells #[.int .i64 3] 2))) (by simp only[execOp,Act.eval,List.map_toArray,List.map_cons,List.map_nil,Sem.run_bind,Sem.run_pure,Result.andThen_ok,r11]) ?_);exact hI.next (by kernel_rfl) hcl ho0 (by omega) hs15 hnf (by omega) 14 rfl (by omega) (by omega) _ _ (iK w1 _) (⟨_,rfl,hB,heap_alloc_new w1 _⟩) (hI.apart_keep 11 14 _ (by omega) (by omega) (by omega) (by omega))
  | 12,_=>
   simp only[iA,iB,iC,sJ]at ho;subst ho;have l1:l.getD 1 false=true:=hd {on:=1,ground:=.data} (by simp) rfl;have l6:l.getD 6 false=true:=hd {on:=6,ground:=.data} (by simp) rfl;have l8:l.getD 8 false=true:=hd {on:=8,ground:=.data} (by simp) rfl;have l10:l.getD 10 false=true:=hd {on:=10,ground:=.data} (by simp) rfl;have l11:l.getD 11 false=true:=hd {on:=11,ground:=.data} (by simp) rfl;have l2:l.getD 2 false=true:=hcl 6 l6 _ rfl {on:=2,ground:=.data} (by simp) rfl;obtain⟨r,f5,_⟩:=hI.facts 1 l1;obtain⟨m,f6,_⟩:=hI.facts 2 l2;have f9:a.tmps.getD 9 undef=a.tmps.getD 6 undef:=hI.facts 6 l6;obtain⟨c,f11,_⟩:=hI.facts 8 l8;obtain⟨d,f13,_⟩:=hI.facts 10 l10;obtain⟨q,f14,_⟩:=hI.facts 11 l11;simp only at f5 f6 f11 f13 f14;rw[f6]at f9;refine dV ho0 rfl (dH (v:=.agg #[.slice (some ⟨r,0,none⟩) 1 1,.int .i64 1,.int .i64 1,.map (some m),.slice (some ⟨c,0,none⟩) n n,.slice (some ⟨d,0,none⟩) n n,.slice (some ⟨q,0,none⟩) 1 1,.slice none 0 0]) (w':=w1) (by simp only[execOp,Act.eval,List.map_toArray,List.map_cons,List.map_nil,Sem.run_bind,Sem.run_pure,Result.andThen_ok,f5,f9,f11,f13,f14,r12]) ?_);exact hI.next (by kernel_rfl) hcl ho0 (by omega) hs15 hnf (by omega) 15 rfl (by omega) (by omega) _ _ (bQ _ _) (by show(_:Value)=Value.agg _;simp[f5,f9,f11,f13,f14]) (hI.apart_keep 12 15 _ (by omega) (by omega) (by omega) (by omega))
  | 13,_=>
   simp only[iA,iB,iC,sJ]at ho;subst ho;have l12:l.getD 12 false=true:=hd {on:=12,ground:=.data} (by simp) rfl;have l1:l.getD 1 false=true:=hcl 12 l12 _ rfl {on:=1,ground:=.data} (by simp) rfl;have l6:l.getD 6 false=true:=hcl 12 l12 _ rfl {on:=6,ground:=.data} (by simp) rfl;have l8:l.getD 8 false=true:=hcl 12 l12 _ rfl {on:=8,ground:=.data} (by simp) rfl;have l10:l.getD 10 false=true:=hcl 12 l12 _ rfl {on:=10,ground:=.data} (by simp) rfl;have l11:l.getD 11 false=true:=hcl 12 l12 _ rfl {on:=11,ground:=.data} (by simp) rfl;have l2:l.getD 2 false=true:=hcl 6 l6 _ rfl {on:=2,ground:=.data} (by simp) rfl;obtain⟨r,f5,_⟩:=hI.facts 1 l1;obtain⟨m,f6,_⟩:=hI.facts 2 l2;have f9:a.tmps.getD 9 undef=a.tmps.getD 6 undef:=hI.facts 6 l6;obtain⟨c,f11,_⟩:=hI.facts 8 l8;obtain⟨d,f13,_⟩:=hI.facts 10 l10;obtain⟨q,f14,_⟩:=hI.facts 11 l11;simp only at f5 f6 f11 f13 f14;rw[f6]at f9;have f15:a.tmps.getD 15 undef=.agg #[a.tmps.getD 5 undef,.int .i64 1,.int .i64 1,a.tmps.getD 9 undef,a.tmps.getD 11 undef,a.tmps.getD 13 undef,a.tmps.getD 14 undef,.slice none 0 0]:=hI.facts 12 l12;rw[f5,f9,f11,f13,f14]at f15;refine dV ho0 rfl (dH (v:=.pointer (some ⟨w1.heap.size,0,none⟩)) (w':=(w1.alloc (.cells #[.slice (some ⟨r,0,none⟩) 1 1,.int .i64 1,.int .i64 1,.map (some m),.slice (some ⟨c,0,none⟩) n n,.slice (some ⟨d,0,none⟩) n n,.slice (some ⟨q,0,none⟩) 1 1,.slice none 0 0] 71))) (by simp only[execOp,Act.eval,Sem.run_bind,Sem.run_pure,Result.andThen_ok,f15,r13]) ?_);exact hI.next (by kernel_rfl) hcl ho0 (by omega) hs15 hnf (by omega) 16 rfl (by omega) (by omega) _ _ (iK w1 _) (⟨_,_,by show(_:Value)=Value.agg _;simpa using f15,rfl,hB,heap_alloc_new w1 _⟩) (hI.apart_keep 13 16 _ (by omega) (by omega) (by omega) (by omega))
  | 14,_=>
   simp only[iA,iB,iC,sJ]at ho;subst ho;have l13:l.getD 13 false=true:=hd {on:=13,ground:=.data} (by simp) rfl;obtain⟨f,cs,_,f16,_⟩:=hI.facts 13 l13;simp only at f16;refine dV ho0 rfl (dH (v:=.pointer (some ⟨f,0,none⟩)) (w':=w1) (by simp only[execOp,Act.eval,Sem.run_pure,f16]) ?_);exact hI.next (by kernel_rfl) hcl ho0 (by omega) hs15 hnf (by omega) 3 rfl (by omega) (by omega) _ _ (bQ _ _) (by show(_:Value)=_;simpa using f16.symm) (hI.apart_keep 14 3 _ (by omega) (by omega) (by omega) (by omega))
 case fin=>
  intro l a w1 hs hI hall;have g:=fun k (hk:k<15)=>hall k hk;obtain⟨r,f5,hr1,hr2⟩:=hI.facts 1 (g 1 (by omega));obtain⟨p,f8,hp1,hp2⟩:=hI.facts 4 (g 4 (by omega));obtain⟨m,p',f6,f8',hN⟩:=hI.facts 5 (g 5 (by omega));obtain⟨m',f6',hm1,_⟩:=hI.facts 2 (g 2 (by omega));have f9:a.tmps.getD 9 undef=a.tmps.getD 6 undef:=hI.facts 6 (g 6 (by omega));obtain⟨c,f11,hc1,hc2⟩:=hI.facts 8 (g 8 (by omega));obtain⟨d,f13,hd1,hd2⟩:=hI.facts 10 (g 10 (by omega));obtain⟨q,f14,hq1,hq2⟩:=hI.facts 11 (g 11 (by omega));have f15:a.tmps.getD 15 undef=.agg #[a.tmps.getD 5 undef,.int .i64 1,.int .i64 1,a.tmps.getD 9 undef,a.tmps.getD 11 undef,a.tmps.getD 13 undef,a.tmps.getD 14 undef,.slice none 0 0]:=hI.facts 12 (g 12 (by omega));obtain⟨f,cs,f15',f16,hf1,hf2⟩:=hI.facts 13 (g 13 (by omega));have f3:a.tmps.getD 3 undef=a.tmps.getD 16 undef:=hI.facts 14 (g 14 (by omega));have hap:=hI.apart (g 8 (by omega)) (g 10 (by omega));simp only at f5 f6 f6' f8 f8' f11 f13 f14 f15' f16;rw[f11,f13]at hap;have hcd:c≠d:=fun e=>hap (by rw[e]);obtain rfl:m=m':=by rw[f6]at f6';simpa using f6'
  obtain rfl:p=p':=by rw[f8]at f8';simpa using f8'
  rw[f6]at f9;rw[f5,f9,f11,f13,f14,f15']at f15;obtain rfl:cs=#[.slice (some ⟨r,0,none⟩) 1 1,.int .i64 1,.int .i64 1,.map (some m),.slice (some ⟨c,0,none⟩) n n,.slice (some ⟨d,0,none⟩) n n,.slice (some ⟨q,0,none⟩) 1 1,.slice none 0 0]:=by simpa using f15
  rw[f16]at f3;have hB:=hI.below;obtain⟨tm,df⟩:=a;have hdf:df=[]:=hI.defers;subst hdf;have hsz:tm.size=33:=hI.size;have ha0:tm.getD 0 undef=.int .i64 n:=hI.arg;have ha3:tm.getD 3 undef=.pointer (some ⟨f,0,none⟩):=f3;clear hI hall g f5 f6 f6' f8 f8' f9 f11 f13 f14 f15 f15' f16 f3 hap;obtain⟨x0,x1,x2,x3,x4,x5,x6,x7,x8,x9,x10,x11,x12,x13,x14,x15,x16,x17,x18,x19,x20,x21,x22,x23,x24,x25,x26,x27,x28,x29,x30,x31,x32,rfl⟩:=aME tm hsz;obtain rfl:x0=.int .i64 n:=ha0;obtain rfl:x3=.pointer (some ⟨f,0,none⟩):=ha3;clear hsz;have hcl2:c<w1.heap.size:=(Array.getElem?_eq_some_iff.1 hc2).1;have hcf:c≠f:=fun e=>by rw[e,hf2]at hc2;simp at hc2
  have hdf2:d≠f:=fun e=>by rw[e,hf2]at hd2;simp at hd2
  have hn2:(2:Int) <(n:Int):=by omega
  have hn3:(3:Int) <(n:Int):=by omega
  have e4:w1.cell? ⟨f,4,none⟩=some (.slice (some ⟨c,0,none⟩) n n):=by simp[World.cell?,hf2]
  have e5:w1.cell? ⟨f,5,none⟩=some (.slice (some ⟨d,0,none⟩) n n):=by simp[World.cell?,hf2]
  have ec2:w1.cell? ⟨c,2,none⟩=some (.int .i64 0):=by simp[World.cell?,hc2,cY,show 2<n by omega]
  have ecf:w1.frozen? ⟨c,2,none⟩=false:=frozen_of_row w1 c _ _ _ hc2;have ed2:w1.cell? ⟨d,2,none⟩=some (.int .i64 0):=by simp[World.cell?,hd2,cY,show 2<n by omega]
  have ed3:w1.cell? ⟨d,3,none⟩=some (.int .i64 0):=by simp[World.cell?,hd2,cY,show 3<n by omega]
  have edf:w1.frozen? ⟨d,2,none⟩=false:=frozen_of_row w1 d _ _ _ hd2;have edf3:w1.frozen? ⟨d,3,none⟩=false:=frozen_of_row w1 d _ _ _ hd2;obtain⟨W,HW⟩:=exH (((w1.setCell ⟨c,2,none⟩ (.int .i64 1)).setCell ⟨d,2,none⟩ (.int .i64 1)).setCell ⟨d,3,none⟩ (.int .i64 1));have hoth:∀k,k≠c→k≠d→W.heap[k]?=w1.heap[k]?:=fun k k1 k2=>by
   rw[HW.out];exact(Below.heap_setCell _ ⟨d,3,none⟩ _ k k2).trans ((Below.heap_setCell _ ⟨d,2,none⟩ _ k k2).trans (Below.heap_setCell _ ⟨c,2,none⟩ _ k k1))
  have hty:∀k cs t,w1.heap[k]?=some (.cells cs t (0,0))→t≠2→k≠c∧k≠d:=fun k cs t hk ht=>⟨fun e=>by rw[e,hc2]at hk;simp at hk;exact ht hk.2.symm,fun e=>by rw[e,hd2]at hk;simp at hk;exact ht hk.2.symm⟩;have hFr:aCP w.heap.size n W f r m p c d q:=by
   have hmm:m≠c∧m≠d:=by
    obtain⟨⟨es,c0,h1⟩,_⟩:=hN;exact⟨fun e=>by rw[e,hc2]at h1;simp at h1,fun e=>by rw[e,hd2]at h1;simp at h1⟩
   have hqq:q≠c∧q≠d:=by
    have hsz2:∀b,w1.heap[b]?=some (.cells (cY (List.replicate n 0)) 2 (0,0))→q≠b:=fun b hb e=>by
     rw[e,hb]at hq2;have h1:=congrArg (fun o=>match o with | some (Obj.cells cs _ _)=>cs.size | _=>0) hq2;simp[cY]at h1;omega
    exact⟨hsz2 c hc2,hsz2 d hd2⟩
   have hf':=hty f _ _ hf2 (by decide);have hr':=hty r _ _ hr2 (by decide);have hp':=hty p _ _ hp2 (by decide);refine⟨(hoth f hf'.1 hf'.2).trans hf2,(hoth r hr'.1 hr'.2).trans hr2,?_,(hoth p hp'.1 hp'.2).trans hp2,?_,?_,(hoth q hqq.1 hqq.2).trans hq2,hf1,hr1,hm1,hp1,hc1,hd1,hq1,hcd⟩
   ·obtain⟨⟨es,c0,h1⟩,h2⟩:=hN
    exact⟨⟨es,c0,(hoth m hmm.1 hmm.2).trans h1⟩,h2.of (hoth m hmm.1 hmm.2)⟩
   ·have s1:=heap_setCell_same _ c 2 _ _ (.int .i64 1) hc2
    have s2:=(Below.heap_setCell _ ⟨d,3,none⟩ (.int .i64 1) c hcd).trans ((Below.heap_setCell _ ⟨d,2,none⟩ (.int .i64 1) c hcd).trans s1);have e:(cY (List.replicate n 0)).setIfInBounds 2 (.int .i64 1)=cY (aLJ n):=by
     apply Array.toList_inj.1
     simp[cY,aLJ,List.map_set]
    rw[HW.out,s2,e]
   ·have s0:(w1.setCell ⟨c,2,none⟩ (.int .i64 1)).heap[d]?=some (.cells (cY (List.replicate n 0)) 2 (0,0)):=(Below.heap_setCell _ ⟨c,2,none⟩ _ d (Ne.symm hcd)).trans hd2
    have s1:=heap_setCell_same _ d 2 _ _ (.int .i64 1) s0;have s2:=heap_setCell_same _ d 3 _ _ (.int .i64 1) s1;have e:((cY (List.replicate n 0)).setIfInBounds 2 (.int .i64 1)).setIfInBounds 3 (.int .i64 1)=cY (aJP n):=by
     apply Array.toList_inj.1
     simp[cY,aJP,List.map_set]
    rw[HW.out,s2,e]
  have hBW:Bl w W:=by
   rw[HW.out];exact((hB.setCell (p:=⟨c,2,none⟩) hc1 _).setCell (p:=⟨d,2,none⟩) hd1 _).setCell (p:=⟨d,3,none⟩) hd1 _
  have HFR:Hid _:=hFr;have HBW:Hid _:=hBW;clear hFr hBW hoth hty hN hr2 hp2 hc2 hd2 hq2 hf2;go_wp2_with fail;go_ret;rw[←HW.out];exact⟨f,r,m,p,c,d,q,rfl,HFR.out,HBW.out⟩
def uI(f r m p c d:Nat):Nat→Nat:=fun x=>if x=f then 1 else if x=r then 2 else if x=m then 3 else if x=c then 4 else if x=d then 5 else if x=p then cE 2 else 0
def qA(r m p c d q:Nat):Adr:={ra:=r,rj:=[],m:=m,c:=c,d:=d,dj:=[],tv:=.slice (some ⟨q,0,none⟩) 1 1,φ:=upd (fun _=>none) 2 (some p),α:=fun _=>none}
theorem aCP.st{B n:Nat}{w:World}{f r m p c d q:Nat}(h:aCP B n w f r m p c d q)(hn:n≤512):St w (uI f r m p c d) f (qA r m p c d q) (aH n) []∧∀x,x<B→uI f r m p c d x=0:=by
 obtain⟨⟨es,c0,hm0⟩,hM⟩:=h.map;have ne:∀{x y:Nat} {o o':Obj},w.heap[x]?=some o→w.heap[y]?=some o'→o≠o'→x≠y:=fun {x y o o'} h1 h2 h3 e=>by subst e;rw[h1]at h2;exact h3 (Option.some.inj h2)
 have fr:f≠r:=ne h.fst h.root (by simp);have fm:f≠m:=ne h.fst hm0 (by simp);have fc:f≠c:=ne h.fst h.cur (by simp);have fd:f≠d:=ne h.fst h.com (by simp);have fp:f≠p:=ne h.fst h.node (by simp);have rm:r≠m:=ne h.root hm0 (by simp);have rc:r≠c:=ne h.root h.cur (by simp);have rd:r≠d:=ne h.root h.com (by simp);have rp:r≠p:=ne h.root h.node (by simp);have mc:m≠c:=ne hm0 h.cur (by simp);have md:m≠d:=ne hm0 h.com (by simp);have mp:m≠p:=ne hm0 h.node (by simp);have cp:c≠p:=ne h.cur h.node (by simp);have dp:d≠p:=ne h.com h.node (by simp);have cd:=h.cd;have lt:∀{x:Nat} {o:Obj},w.heap[x]?=some o→x<w.heap.size:=fun {x o} e=>(Array.getElem?_eq_some_iff.1 e).1;refine⟨⟨none,[],[],⟨fun k hk=>?_,?_,by simp[uI],?_,by simp[uI,qA,Ne.symm fr],hM,by simp[uI,qA,Ne.symm fm,Ne.symm rm],?_,by simp[uI,qA,Ne.symm fc,Ne.symm rc,Ne.symm mc],?_,by simp[uI,qA,Ne.symm fd,Ne.symm rd,Ne.symm md,Ne.symm cd],fun b dd hb=>?_,fun b hb=>?_,by simp[aH,qA,maxLen],?_⟩,fun _=>JrL.start _ _⟩,fun x hx=>?_⟩
 ·unfold uI at hk
  by_cases e1:k=f
  ·rw[e1];exact lt h.fst
  by_cases e2:k=r
  ·rw[e2];exact lt h.root
  by_cases e3:k=m
  ·rw[e3];exact lt hm0
  by_cases e4:k=c
  ·rw[e4];exact lt h.cur
  by_cases e5:k=d
  ·rw[e5];exact lt h.com
  by_cases e6:k=p
  ·rw[e6];exact lt h.node
  simp[e1,e2,e3,e4,e5,e6]at hk
 ·have:=h.fst
  simpa [IsC,dC,qA,aH,aGO,adr] using this
 ·have:=h.root
  simpa [IsC,qA,aH,cO,aS] using this
 ·exact h.cur
 ·have:=h.com
  simpa [IsC,qA,aH,jE,cY,aJP] using this
 ·simp only[aH]at hb
  split at hb
  ·rename_i e
   subst e;cases hb;refine⟨p,by simp[qA,aD],by simp[uI,Ne.symm fp,Ne.symm rp,Ne.symm mp,Ne.symm cp,Ne.symm dp],fun g e=>(by cases e),[],⟨by have:=h.node;simpa [IsC,adr,qA] using this,fun g e=>(by cases e),fun _=>⟨rfl,rfl⟩,by simp[maxLen]⟩⟩
  ·cases hb
 ·simp only[aH]at hb
  split at hb
  ·cases hb
  ·rename_i e
   show upd (fun _=>none) 2 (some p) b=none
   exact aC _ _ e
 ·simp[aH,qA,maxLen];omega
 ·have:=h.hf;have:=h.hr;have:=h.hm;have:=h.hp;have:=h.hc;have:=h.hd
  unfold uI;rw[if_neg (by omega),if_neg (by omega),if_neg (by omega),if_neg (by omega),if_neg (by omega),if_neg (by omega)]
