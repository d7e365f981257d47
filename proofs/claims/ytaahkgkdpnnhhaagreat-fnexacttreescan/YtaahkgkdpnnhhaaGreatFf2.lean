import Derived.Test.YtaahkgkdpnnhhaaGreatSq30
set_option maxHeartbeats 9999999
set_option maxRecDepth 99999
set_option linter.all false
namespace Go.Proofs.YtaahkgkdpnnhhaaGreat
open Go.RowKit Fo
section
variable (w : World)
theorem r0:(Instr.build 77 #[(0,.int .i64 0),(1,.int .i64 2)]).run Tryz.prog w=.ok (.agg #[.int .i64 0,.int .i64 2]) w:=by kernel_rfl
theorem r1:(Instr.buildSlice 55 1 #[(0,.agg #[.int .i64 0,.int .i64 2])]).run Tryz.prog w=.ok (.slice (some ⟨w.heap.size,0,none⟩) 1 1) (w.alloc (.cells #[.int .i64 0,.int .i64 2] 77)):=by kernel_rfl
theorem r2:(Instr.makeMap 68 none).run Tryz.prog w=.ok (.map (some w.heap.size)) (w.alloc (.map #[] 0)):=rfl
theorem r3:(Instr.build 108 #[(0,.int .i64 1)]).run Tryz.prog w=.ok (.agg #[.int .i64 1,.slice none 0 0]) w:=by kernel_rfl
theorem r4:(Instr.box 108 (.agg #[.int .i64 1,.slice none 0 0])).run Tryz.prog w=.ok (.pointer (some ⟨w.heap.size,0,none⟩)) (w.alloc (.cells #[.int .i64 1,.slice none 0 0] 108)):=by kernel_rfl
theorem r8(n:Nat)(hn:n≤512):(Instr.makeSlice 24 (.int .i64 (n:Int)) (.int .i64 (n:Int))).run Tryz.prog w=.ok (.slice (some ⟨w.heap.size,0,none⟩) n n) (w.alloc (.cells (dD (List.replicate n 0)) 2)):=by
 have h:=run_make_row' (P:=Tryz.prog) 24 2 (.int .i64 0) 8 Tryz.underlying24 rR rfl .i64 .i64 n (by omega) (by omega) w;have e:madeCells #[.int .i64 0] n=dD (List.replicate n 0):=by
  apply Array.toList_inj.1
  rw[toList_madeCells_one];simp[dD]
 rw[e]at h;exact h
theorem r11:(Instr.buildSlice 24 1 #[(0,.int .i64 3)]).run Tryz.prog w=.ok (.slice (some ⟨w.heap.size,0,none⟩) 1 1) (w.alloc (.cells #[.int .i64 3] 2)):=by kernel_rfl
theorem r12(r m c d q n:Nat):(Instr.build 71 #[(0,.slice (some ⟨r,0,none⟩) 1 1),(1,.int .i64 1),(2,.int .i64 1),(3,.map (some m)),(4,.slice (some ⟨c,0,none⟩) n n),(5,.slice (some ⟨d,0,none⟩) n n),(6,.slice (some ⟨q,0,none⟩) 1 1)]).run Tryz.prog w=.ok (.agg #[.slice (some ⟨r,0,none⟩) 1 1,.int .i64 1,.int .i64 1,.map (some m),.slice (some ⟨c,0,none⟩) n n,.slice (some ⟨d,0,none⟩) n n,.slice (some ⟨q,0,none⟩) 1 1,.slice none 0 0]) w:=by kernel_rfl
theorem r13(r m c d q n:Nat):(Instr.box 71 (.agg #[.slice (some ⟨r,0,none⟩) 1 1,.int .i64 1,.int .i64 1,.map (some m),.slice (some ⟨c,0,none⟩) n n,.slice (some ⟨d,0,none⟩) n n,.slice (some ⟨q,0,none⟩) 1 1,.slice none 0 0])).run Tryz.prog w=.ok (.pointer (some ⟨w.heap.size,0,none⟩)) (w.alloc (.cells #[.slice (some ⟨r,0,none⟩) 1 1,.int .i64 1,.int .i64 1,.map (some m),.slice (some ⟨c,0,none⟩) n n,.slice (some ⟨d,0,none⟩) n n,.slice (some ⟨q,0,none⟩) 1 1,.slice none 0 0] 71)):=by kernel_rfl
end
theorem dJ{P:Program}{o:Oper}{a:Act}{w w':World}{v:Value}{K:Act→World→Prop}{Q:Exit→Act→World→Prop}(h:(execOp a.eval o).run P w=.ok (.value v) w')(hK:K (a.put o.dst v) w'):o.wp P a w K Q:=by
 unfold Oper.wp;rw[h];exact hK
theorem aKS{P:Program}{o:Oper}{a:Act}{w w':World}{K:Act→World→Prop}{Q:Exit→Act→World→Prop}(h:(execOp a.eval o).run P w=.ok .skip w')(hK:K (a.put o.dst undef) w'):o.wp P a w K Q:=by
 unfold Oper.wp;rw[h];exact hK
theorem zZ{b b':Nat}{n:Nat}(h:b≠b'):Value.slice (some ⟨b,0,none⟩) n n≠Value.slice (some ⟨b',0,none⟩) n n:=fun e=>by
 simp only[Value.slice.injEq,sJ,Addr.mk.injEq,and_true]at e;exact h e
theorem aML(a:Array Value)(h:a.size=33):∃x0 x1 x2 x3 x4 x5 x6 x7 x8 x9 x10 x11 x12 x13 x14 x15 x16 x17 x18 x19 x20 x21 x22 x23 x24 x25 x26 x27 x28 x29 x30 x31 x32,a=#[x0,x1,x2,x3,x4,x5,x6,x7,x8,x9,x10,x11,x12,x13,x14,x15,x16,x17,x18,x19,x20,x21,x22,x23,x24,x25,x26,x27,x28,x29,x30,x31,x32]:=by
 obtain⟨l⟩:=a;have h':l.length=33:=by simpa using h
 clear h;rcases l with _ | ⟨x0,_ | ⟨x1,_ | ⟨x2,_ | ⟨x3,_ | ⟨x4,_ | ⟨x5,_ | ⟨x6,_ | ⟨x7,_ | ⟨x8,_ | ⟨x9,_ | ⟨x10,_ | ⟨x11,_ | ⟨x12,_ | ⟨x13,_ | ⟨x14,_ | ⟨x15,_ | ⟨x16,_ | ⟨x17,_ | ⟨x18,_ | ⟨x19,_ | ⟨x20,_ | ⟨x21,_ | ⟨x22,_ | ⟨x23,_ | ⟨x24,_ | ⟨x25,_ | ⟨x26,_ | ⟨x27,_ | ⟨x28,_ | ⟨x29,_ | ⟨x30,_ | ⟨x31,_ | ⟨x32,_ | ⟨y,l⟩⟩⟩⟩⟩⟩⟩⟩⟩⟩⟩⟩⟩⟩⟩⟩⟩⟩⟩⟩⟩⟩⟩⟩⟩⟩⟩⟩⟩⟩⟩⟩⟩⟩
 all_goals first | exact⟨_,_,_,_,_,_,_,_,_,_,_,_,_,_,_,_,_,_,_,_,_,_,_,_,_,_,_,_,_,_,_,_,_,rfl⟩ | (simp at h')
def aJG(n:Nat):List Int:=((List.replicate n 0).set 2 1).set 3 1
def aLO(n:Nat):List Int:=(List.replicate n 0).set 2 1
structure aCE(B n:Nat)(w:World)(f r m p c d q:Nat):Prop where
 fst:w.heap[f]?=some (.cells #[.slice (some ⟨r,0,none⟩) 1 1,.int .i64 1,.int .i64 1,.map (some m),.slice (some ⟨c,0,none⟩) n n,.slice (some ⟨d,0,none⟩) n n,.slice (some ⟨q,0,none⟩) 1 1,.slice none 0 0] 71 (0,0))
 root:w.heap[r]?=some (.cells #[.int .i64 0,.int .i64 2] 77 (0,0))
 map:aIU w m p
 node:w.heap[p]?=some (.cells #[.int .i64 1,.slice none 0 0] 108 (0,0))
 cur:w.heap[c]?=some (.cells (dD (aLO n)) 2 (0,0))
 com:w.heap[d]?=some (.cells (dD (aJG n)) 2 (0,0))
 tab:w.heap[q]?=some (.cells #[.int .i64 3] 2 (0,0))
 hf:B≤f
 hr:B≤r
 hm:B≤m
 hp:B≤p
 hc:B≤c
 hd:B≤d
 hq:B≤q
 cd:c≠d
theorem qA(n:Nat)(hn:8≤n∧n≤512)(w:World):
  Calls Tryz.prog 56 #[.int .i64 n] w fun e w'=>∃f r m p c d q,e=.returned (.pointer (some ⟨f,0,none⟩))∧aCE w.heap.size n w' f r m p c d q∧Bl w w':=by
 go_enter Tryz.func56,Tryz.ntmps56
 go_wp2_with fail
 refine wp_region_any (by kernel_rfl) ?_;refine aFM (FI w n) ?step ?fin (aAK (aFV (by kernel_rfl))) _ _ _ _ (by simp) ?cl (by kernel_rfl) ?ini
 case cl=>intro k hk;exfalso;simp[Array.getElem?_replicate]at hk;split at hk<;>simp at hk
 case ini=>
  refine⟨rfl,rfl,rfl,(bQ _ _).drew,fun k hk=>?_,fun hk=>?_⟩
  ·exfalso;simp[Array.getElem?_replicate]at hk;split at hk<;>simp at hk
  ·exfalso;simp at hk
 case step=>
  intro l a w1 hs au hI i o ho YN yi hd;have oh:l.size=15:=hs;have Qx:i<15:=by
   by_cases hh:i<15
   ·exact hh
   ·rw[Array.getElem?_eq_none (by simpa using Nat.le_of_not_lt hh)]at ho;cases ho
  have qe:=ho;have hB:=hI.below.size;match i,Qx with
  | 0,_=>
   simp only[List.getElem?_toArray,List.getElem?_cons_zero,sJ]at ho;subst ho;refine dW qe rfl (dJ (v:=.agg #[.int .i64 0,.int .i64 2]) (w':=w1) (by simp only[execOp,Act.eval,List.map_toArray,List.map_cons,List.map_nil,Sem.run_bind,Sem.run_pure,Result.andThen_ok,r0]) ?_);exact hI.next (by kernel_rfl) au qe (by omega) oh yi (by omega) 4 rfl (by omega) (by omega) _ _ (bQ _ _) (rfl) (hI.apart_keep 0 4 _ (by omega) (by omega) (by omega) (by omega))
  | 1,_=>
   simp only[iA,iB,iC,sJ]at ho;subst ho;have l0:l.getD 0 false=true:=hd {on:=0,ground:=.data} (by simp) rfl;have f0:a.tmps.getD 4 undef=.agg #[.int .i64 0,.int .i64 2]:=hI.facts 0 l0;refine dW qe rfl (dJ (v:=.slice (some ⟨w1.heap.size,0,none⟩) 1 1) (w':=(w1.alloc (.cells #[.int .i64 0,.int .i64 2] 77))) (by simp only[execOp,Act.eval,List.map_toArray,List.map_cons,List.map_nil,Sem.run_bind,Sem.run_pure,Result.andThen_ok,f0,r1]) ?_);exact hI.next (by kernel_rfl) au qe (by omega) oh yi (by omega) 5 rfl (by omega) (by omega) _ _ (iG w1 _) (⟨_,rfl,hB,heap_alloc_new w1 _⟩) (hI.apart_keep 1 5 _ (by omega) (by omega) (by omega) (by omega))
  | 2,_=>
   simp only[iA,iB,iC,sJ]at ho;subst ho;refine dW qe rfl (dJ (v:=.map (some w1.heap.size)) (w':=(w1.alloc (.map #[] 0))) (by simp only[execOp,Option.map_none,Sem.run_bind,Sem.run_pure,Result.andThen_ok,r2]) ?_);exact hI.next (by kernel_rfl) au qe (by omega) oh yi (by omega) 6 rfl (by omega) (by omega) _ _ (iG w1 _) (⟨_,rfl,hB,⟨_,_,heap_alloc_new w1 _⟩,fun _=>heap_alloc_new w1 _⟩) (hI.apart_keep 2 6 _ (by omega) (by omega) (by omega) (by omega))
  | 3,_=>
   simp only[iA,iB,iC,sJ]at ho;subst ho;refine dW qe rfl (dJ (v:=.agg #[.int .i64 1,.slice none 0 0]) (w':=w1) (by simp only[execOp,Act.eval,List.map_toArray,List.map_cons,List.map_nil,Sem.run_bind,Sem.run_pure,Result.andThen_ok,r3]) ?_);exact hI.next (by kernel_rfl) au qe (by omega) oh yi (by omega) 7 rfl (by omega) (by omega) _ _ (bQ _ _) (rfl) (hI.apart_keep 3 7 _ (by omega) (by omega) (by omega) (by omega))
  | 4,_=>
   simp only[iA,iB,iC,sJ]at ho;subst ho;have l3:l.getD 3 false=true:=hd {on:=3,ground:=.data} (by simp) rfl;have f3:a.tmps.getD 7 undef=.agg #[.int .i64 1,.slice none 0 0]:=hI.facts 3 l3;refine dW qe rfl (dJ (v:=.pointer (some ⟨w1.heap.size,0,none⟩)) (w':=(w1.alloc (.cells #[.int .i64 1,.slice none 0 0] 108))) (by simp only[execOp,Act.eval,Sem.run_bind,Sem.run_pure,Result.andThen_ok,f3,r4]) ?_);exact hI.next (by kernel_rfl) au qe (by omega) oh yi (by omega) 8 rfl (by omega) (by omega) _ _ (iG w1 _) (⟨_,rfl,hB,heap_alloc_new w1 _⟩) (hI.apart_keep 4 8 _ (by omega) (by omega) (by omega) (by omega))
  | 5,_=>
   simp only[iA,iB,iC,sJ]at ho;subst ho;have l2:l.getD 2 false=true:=hd {on:=2,ground:=.data} (by simp) rfl;have l4:l.getD 4 false=true:=hd {on:=4,ground:=.data} (by simp) rfl;obtain⟨m,f6,hm,_,he⟩:=hI.facts 2 l2;obtain⟨p,f8,_⟩:=hI.facts 4 l4;have E8:=he yi;obtain⟨w2,hr,hN,hu⟩:=aJZ (p:=p) E8;simp only at f6 f8;refine dW qe rfl (aKS (w':=w2) (by simp only[execOp,Act.eval,f6,f8,hr,Sem.run_bind,Sem.run_pure,Result.andThen_ok]) ?_);exact hI.ins (ops:=#[]) oh yi w2 m p f6 f8 hm hN hu E8
  | 6,_=>
   simp only[iA,iB,iC,sJ]at ho;subst ho;have l2:l.getD 2 false=true:=hd {on:=2,ground:=.data} (by simp) rfl;obtain⟨m,f6,_⟩:=hI.facts 2 l2;simp only at f6;refine dW qe rfl (dJ (v:=.map (some m)) (w':=w1) (by simp only[execOp,Act.eval,Sem.run_pure,f6]) ?_);exact hI.next (by kernel_rfl) au qe (by omega) oh yi (by omega) 9 rfl (by omega) (by omega) _ _ (bQ _ _) (by show(_:Value)=_;simpa using f6.symm) (hI.apart_keep 6 9 _ (by omega) (by omega) (by omega) (by omega))
  | 7,_=>
   simp only[iA,iB,iC,sJ]at ho;subst ho;have fa:=hI.arg;refine dW qe rfl (dJ (v:=.int .i64 n) (w':=w1) (by simp only[execOp,Act.eval,Sem.run_pure,fa]) ?_);exact hI.next (by kernel_rfl) au qe (by omega) oh yi (by omega) 10 rfl (by omega) (by omega) _ _ (bQ _ _) (rfl) (hI.apart_keep 7 10 _ (by omega) (by omega) (by omega) (by omega))
  | 8,_=>
   simp only[iA,iB,iC,sJ]at ho;subst ho;have l7:l.getD 7 false=true:=hd {on:=7,ground:=.data} (by simp) rfl;have f7:a.tmps.getD 10 undef=.int .i64 n:=hI.facts 7 l7;refine dW qe rfl (dJ (v:=.slice (some ⟨w1.heap.size,0,none⟩) n n) (w':=(w1.alloc (.cells (dD (List.replicate n 0)) 2))) (by simp only[execOp,Act.eval,Sem.run_bind,Sem.run_pure,Result.andThen_ok,f7,r8 _ n hn.2]) ?_);exact hI.next (by kernel_rfl) au qe (by omega) oh yi (by omega) 11 rfl (by omega) (by omega) _ _ (iG w1 _) (⟨_,rfl,hB,heap_alloc_new w1 _⟩) (fun _ fj=>by
    rw[getD_set_ne false (show(8:Nat)≠10 by omega)]at fj;obtain⟨d,f13,_,sy⟩:=hI.facts 10 fj;have f13':a.tmps.getD 13 undef=.slice (some ⟨d,0,none⟩) n n:=f13;rw[if_pos rfl,if_neg (by omega),f13'];exact zZ (fun e=>by have:=(Array.getElem?_eq_some_iff.1 sy).1;omega))
  | 9,_=>
   simp only[iA,iB,iC,sJ]at ho;subst ho;have fa:=hI.arg;refine dW qe rfl (dJ (v:=.int .i64 n) (w':=w1) (by simp only[execOp,Act.eval,Sem.run_pure,fa]) ?_);exact hI.next (by kernel_rfl) au qe (by omega) oh yi (by omega) 12 rfl (by omega) (by omega) _ _ (bQ _ _) (rfl) (hI.apart_keep 9 12 _ (by omega) (by omega) (by omega) (by omega))
  | 10,_=>
   simp only[iA,iB,iC,sJ]at ho;subst ho;have l9:l.getD 9 false=true:=hd {on:=9,ground:=.data} (by simp) rfl;have f9:a.tmps.getD 12 undef=.int .i64 n:=hI.facts 9 l9;refine dW qe rfl (dJ (v:=.slice (some ⟨w1.heap.size,0,none⟩) n n) (w':=(w1.alloc (.cells (dD (List.replicate n 0)) 2))) (by simp only[execOp,Act.eval,Sem.run_bind,Sem.run_pure,Result.andThen_ok,f9,r8 _ n hn.2]) ?_);exact hI.next (by kernel_rfl) au qe (by omega) oh yi (by omega) 13 rfl (by omega) (by omega) _ _ (iG w1 _) (⟨_,rfl,hB,heap_alloc_new w1 _⟩) (fun h8 _=>by
    rw[getD_set_ne false (show(10:Nat)≠8 by omega)]at h8;obtain⟨c,f11,_,jg⟩:=hI.facts 8 h8;have f11':a.tmps.getD 11 undef=.slice (some ⟨c,0,none⟩) n n:=f11;rw[if_neg (by omega),if_pos rfl,f11'];exact zZ (fun e=>by have:=(Array.getElem?_eq_some_iff.1 jg).1;omega))
  | 11,_=>
   simp only[iA,iB,iC,sJ]at ho;subst ho;refine dW qe rfl (dJ (v:=.slice (some ⟨w1.heap.size,0,none⟩) 1 1) (w':=(w1.alloc (.cells #[.int .i64 3] 2))) (by simp only[execOp,Act.eval,List.map_toArray,List.map_cons,List.map_nil,Sem.run_bind,Sem.run_pure,Result.andThen_ok,r11]) ?_);exact hI.next (by kernel_rfl) au qe (by omega) oh yi (by omega) 14 rfl (by omega) (by omega) _ _ (iG w1 _) (⟨_,rfl,hB,heap_alloc_new w1 _⟩) (hI.apart_keep 11 14 _ (by omega) (by omega) (by omega) (by omega))
  | 12,_=>
   simp only[iA,iB,iC,sJ]at ho;subst ho;have l1:l.getD 1 false=true:=hd {on:=1,ground:=.data} (by simp) rfl;have l6:l.getD 6 false=true:=hd {on:=6,ground:=.data} (by simp) rfl;have l8:l.getD 8 false=true:=hd {on:=8,ground:=.data} (by simp) rfl;have l10:l.getD 10 false=true:=hd {on:=10,ground:=.data} (by simp) rfl;have l11:l.getD 11 false=true:=hd {on:=11,ground:=.data} (by simp) rfl;have l2:l.getD 2 false=true:=au 6 l6 _ rfl {on:=2,ground:=.data} (by simp) rfl;obtain⟨r,f5,_⟩:=hI.facts 1 l1;obtain⟨m,f6,_⟩:=hI.facts 2 l2;have f9:a.tmps.getD 9 undef=a.tmps.getD 6 undef:=hI.facts 6 l6;obtain⟨c,f11,_⟩:=hI.facts 8 l8;obtain⟨d,f13,_⟩:=hI.facts 10 l10;obtain⟨q,f14,_⟩:=hI.facts 11 l11;simp only at f5 f6 f11 f13 f14;rw[f6]at f9;refine dW qe rfl (dJ (v:=.agg #[.slice (some ⟨r,0,none⟩) 1 1,.int .i64 1,.int .i64 1,.map (some m),.slice (some ⟨c,0,none⟩) n n,.slice (some ⟨d,0,none⟩) n n,.slice (some ⟨q,0,none⟩) 1 1,.slice none 0 0]) (w':=w1) (by simp only[execOp,Act.eval,List.map_toArray,List.map_cons,List.map_nil,Sem.run_bind,Sem.run_pure,Result.andThen_ok,f5,f9,f11,f13,f14,r12]) ?_);exact hI.next (by kernel_rfl) au qe (by omega) oh yi (by omega) 15 rfl (by omega) (by omega) _ _ (bQ _ _) (by show(_:Value)=Value.agg _;simp[f5,f9,f11,f13,f14]) (hI.apart_keep 12 15 _ (by omega) (by omega) (by omega) (by omega))
  | 13,_=>
   simp only[iA,iB,iC,sJ]at ho;subst ho;have l12:l.getD 12 false=true:=hd {on:=12,ground:=.data} (by simp) rfl;have l1:l.getD 1 false=true:=au 12 l12 _ rfl {on:=1,ground:=.data} (by simp) rfl;have l6:l.getD 6 false=true:=au 12 l12 _ rfl {on:=6,ground:=.data} (by simp) rfl;have l8:l.getD 8 false=true:=au 12 l12 _ rfl {on:=8,ground:=.data} (by simp) rfl;have l10:l.getD 10 false=true:=au 12 l12 _ rfl {on:=10,ground:=.data} (by simp) rfl;have l11:l.getD 11 false=true:=au 12 l12 _ rfl {on:=11,ground:=.data} (by simp) rfl;have l2:l.getD 2 false=true:=au 6 l6 _ rfl {on:=2,ground:=.data} (by simp) rfl;obtain⟨r,f5,_⟩:=hI.facts 1 l1;obtain⟨m,f6,_⟩:=hI.facts 2 l2;have f9:a.tmps.getD 9 undef=a.tmps.getD 6 undef:=hI.facts 6 l6;obtain⟨c,f11,_⟩:=hI.facts 8 l8;obtain⟨d,f13,_⟩:=hI.facts 10 l10;obtain⟨q,f14,_⟩:=hI.facts 11 l11;simp only at f5 f6 f11 f13 f14;rw[f6]at f9;have f15:a.tmps.getD 15 undef=.agg #[a.tmps.getD 5 undef,.int .i64 1,.int .i64 1,a.tmps.getD 9 undef,a.tmps.getD 11 undef,a.tmps.getD 13 undef,a.tmps.getD 14 undef,.slice none 0 0]:=hI.facts 12 l12;rw[f5,f9,f11,f13,f14]at f15;refine dW qe rfl (dJ (v:=.pointer (some ⟨w1.heap.size,0,none⟩)) (w':=(w1.alloc (.cells #[.slice (some ⟨r,0,none⟩) 1 1,.int .i64 1,.int .i64 1,.map (some m),.slice (some ⟨c,0,none⟩) n n,.slice (some ⟨d,0,none⟩) n n,.slice (some ⟨q,0,none⟩) 1 1,.slice none 0 0] 71))) (by simp only[execOp,Act.eval,Sem.run_bind,Sem.run_pure,Result.andThen_ok,f15,r13]) ?_);exact hI.next (by kernel_rfl) au qe (by omega) oh yi (by omega) 16 rfl (by omega) (by omega) _ _ (iG w1 _) (⟨_,_,by show(_:Value)=Value.agg _;simpa using f15,rfl,hB,heap_alloc_new w1 _⟩) (hI.apart_keep 13 16 _ (by omega) (by omega) (by omega) (by omega))
  | 14,_=>
   simp only[iA,iB,iC,sJ]at ho;subst ho;have l13:l.getD 13 false=true:=hd {on:=13,ground:=.data} (by simp) rfl;obtain⟨f,cs,_,f16,_⟩:=hI.facts 13 l13;simp only at f16;refine dW qe rfl (dJ (v:=.pointer (some ⟨f,0,none⟩)) (w':=w1) (by simp only[execOp,Act.eval,Sem.run_pure,f16]) ?_);exact hI.next (by kernel_rfl) au qe (by omega) oh yi (by omega) 3 rfl (by omega) (by omega) _ _ (bQ _ _) (by show(_:Value)=_;simpa using f16.symm) (hI.apart_keep 14 3 _ (by omega) (by omega) (by omega) (by omega))
 case fin=>
  intro l a w1 hs hI ay;have g:=fun k (hk:k<15)=>ay k hk;obtain⟨r,f5,yl,ph⟩:=hI.facts 1 (g 1 (by omega));obtain⟨p,f8,G7,Bp⟩:=hI.facts 4 (g 4 (by omega));obtain⟨m,p',f6,f8',hN⟩:=hI.facts 5 (g 5 (by omega));obtain⟨m',f6',vo,_⟩:=hI.facts 2 (g 2 (by omega));have f9:a.tmps.getD 9 undef=a.tmps.getD 6 undef:=hI.facts 6 (g 6 (by omega));obtain⟨c,f11,ed,jg⟩:=hI.facts 8 (g 8 (by omega));obtain⟨d,f13,JQ,sy⟩:=hI.facts 10 (g 10 (by omega));obtain⟨q,f14,rh,h9⟩:=hI.facts 11 (g 11 (by omega));have f15:a.tmps.getD 15 undef=.agg #[a.tmps.getD 5 undef,.int .i64 1,.int .i64 1,a.tmps.getD 9 undef,a.tmps.getD 11 undef,a.tmps.getD 13 undef,a.tmps.getD 14 undef,.slice none 0 0]:=hI.facts 12 (g 12 (by omega));obtain⟨f,cs,f15',f16,Kr,xx⟩:=hI.facts 13 (g 13 (by omega));have f3:a.tmps.getD 3 undef=a.tmps.getD 16 undef:=hI.facts 14 (g 14 (by omega));have q8:=hI.apart (g 8 (by omega)) (g 10 (by omega));simp only at f5 f6 f6' f8 f8' f11 f13 f14 f15' f16;rw[f11,f13]at q8;have sx:c≠d:=fun e=>q8 (by rw[e]);obtain rfl:m=m':=by rw[f6]at f6';simpa using f6'
  obtain rfl:p=p':=by rw[f8]at f8';simpa using f8'
  rw[f6]at f9;rw[f5,f9,f11,f13,f14,f15']at f15;obtain rfl:cs=#[.slice (some ⟨r,0,none⟩) 1 1,.int .i64 1,.int .i64 1,.map (some m),.slice (some ⟨c,0,none⟩) n n,.slice (some ⟨d,0,none⟩) n n,.slice (some ⟨q,0,none⟩) 1 1,.slice none 0 0]:=by simpa using f15
  rw[f16]at f3;have hB:=hI.below;obtain⟨tm,df⟩:=a;have AI:df=[]:=hI.defers;subst AI;have bd:tm.size=33:=hI.size;have OM:tm.getD 0 undef=.int .i64 n:=hI.arg;have Vo:tm.getD 3 undef=.pointer (some ⟨f,0,none⟩):=f3;clear hI ay g f5 f6 f6' f8 f8' f9 f11 f13 f14 f15 f15' f16 f3 q8;obtain⟨x0,x1,x2,x3,x4,x5,x6,x7,x8,x9,x10,x11,x12,x13,x14,x15,x16,x17,x18,x19,x20,x21,x22,x23,x24,x25,x26,x27,x28,x29,x30,x31,x32,rfl⟩:=aML tm bd;obtain rfl:x0=.int .i64 n:=OM;obtain rfl:x3=.pointer (some ⟨f,0,none⟩):=Vo;clear bd;have MZ:c<w1.heap.size:=(Array.getElem?_eq_some_iff.1 jg).1;have QQ:c≠f:=fun e=>by rw[e,xx]at jg;simp at jg
  have WH:d≠f:=fun e=>by rw[e,xx]at sy;simp at sy
  have C0:(2:Int) <(n:Int):=by omega
  have DP:(3:Int) <(n:Int):=by omega
  have e4:w1.cell? ⟨f,4,none⟩=some (.slice (some ⟨c,0,none⟩) n n):=by simp[World.cell?,xx]
  have e5:w1.cell? ⟨f,5,none⟩=some (.slice (some ⟨d,0,none⟩) n n):=by simp[World.cell?,xx]
  have ec2:w1.cell? ⟨c,2,none⟩=some (.int .i64 0):=by simp[World.cell?,jg,dD,show 2<n by omega]
  have ecf:w1.frozen? ⟨c,2,none⟩=false:=frozen_of_row w1 c _ _ _ jg;have ed2:w1.cell? ⟨d,2,none⟩=some (.int .i64 0):=by simp[World.cell?,sy,dD,show 2<n by omega]
  have ed3:w1.cell? ⟨d,3,none⟩=some (.int .i64 0):=by simp[World.cell?,sy,dD,show 3<n by omega]
  have edf:w1.frozen? ⟨d,2,none⟩=false:=frozen_of_row w1 d _ _ _ sy;have edf3:w1.frozen? ⟨d,3,none⟩=false:=frozen_of_row w1 d _ _ _ sy;obtain⟨W,HW⟩:=exH (((w1.setCell ⟨c,2,none⟩ (.int .i64 1)).setCell ⟨d,2,none⟩ (.int .i64 1)).setCell ⟨d,3,none⟩ (.int .i64 1));have Bo:∀k,k≠c→k≠d→W.heap[k]?=w1.heap[k]?:=fun k k1 k2=>by
   rw[HW.out];exact(Below.heap_setCell _ ⟨d,3,none⟩ _ k k2).trans ((Below.heap_setCell _ ⟨d,2,none⟩ _ k k2).trans (Below.heap_setCell _ ⟨c,2,none⟩ _ k k1))
  have NX:∀k cs t,w1.heap[k]?=some (.cells cs t (0,0))→t≠2→k≠c∧k≠d:=fun k cs t hk ht=>⟨fun e=>by rw[e,jg]at hk;simp at hk;exact ht hk.2.symm,fun e=>by rw[e,sy]at hk;simp at hk;exact ht hk.2.symm⟩;have Ly:aCE w.heap.size n W f r m p c d q:=by
   have K8:m≠c∧m≠d:=by
    obtain⟨⟨es,c0,h1⟩,_⟩:=hN;exact⟨fun e=>by rw[e,jg]at h1;simp at h1,fun e=>by rw[e,sy]at h1;simp at h1⟩
   have T7:q≠c∧q≠d:=by
    have ep:∀b,w1.heap[b]?=some (.cells (dD (List.replicate n 0)) 2 (0,0))→q≠b:=fun b hb e=>by
     rw[e,hb]at h9;have h1:=congrArg (fun o=>match o with | some (Obj.cells cs _ _)=>cs.size | _=>0) h9;simp[dD]at h1;omega
    exact⟨ep c jg,ep d sy⟩
   have EP:=NX f _ _ xx (by decide);have jo:=NX r _ _ ph (by decide);have FC:=NX p _ _ Bp (by decide);refine⟨(Bo f EP.1 EP.2).trans xx,(Bo r jo.1 jo.2).trans ph,?_,(Bo p FC.1 FC.2).trans Bp,?_,?_,(Bo q T7.1 T7.2).trans h9,Kr,yl,vo,G7,ed,JQ,rh,sx⟩
   ·obtain⟨⟨es,c0,h1⟩,h2⟩:=hN
    exact⟨⟨es,c0,(Bo m K8.1 K8.2).trans h1⟩,h2.of (Bo m K8.1 K8.2)⟩
   ·have s1:=heap_setCell_same _ c 2 _ _ (.int .i64 1) jg
    have s2:=(Below.heap_setCell _ ⟨d,3,none⟩ (.int .i64 1) c sx).trans ((Below.heap_setCell _ ⟨d,2,none⟩ (.int .i64 1) c sx).trans s1);have e:(dD (List.replicate n 0)).setIfInBounds 2 (.int .i64 1)=dD (aLO n):=by
     apply Array.toList_inj.1
     simp[dD,aLO,List.map_set]
    rw[HW.out,s2,e]
   ·have s0:(w1.setCell ⟨c,2,none⟩ (.int .i64 1)).heap[d]?=some (.cells (dD (List.replicate n 0)) 2 (0,0)):=(Below.heap_setCell _ ⟨c,2,none⟩ _ d (Ne.symm sx)).trans sy
    have s1:=heap_setCell_same _ d 2 _ _ (.int .i64 1) s0;have s2:=heap_setCell_same _ d 3 _ _ (.int .i64 1) s1;have e:((dD (List.replicate n 0)).setIfInBounds 2 (.int .i64 1)).setIfInBounds 3 (.int .i64 1)=dD (aJG n):=by
     apply Array.toList_inj.1
     simp[dD,aJG,List.map_set]
    rw[HW.out,s2,e]
  have Eu:Bl w W:=by
   rw[HW.out];exact((hB.setCell (p:=⟨c,2,none⟩) ed _).setCell (p:=⟨d,2,none⟩) JQ _).setCell (p:=⟨d,3,none⟩) JQ _
  have zq:Hid _:=Ly;have UU:Hid _:=Eu;clear Ly Eu Bo NX hN ph Bp jg sy h9 xx;go_wp2_with fail;go_ret;rw[←HW.out];exact⟨f,r,m,p,c,d,q,rfl,zq.out,UU.out⟩
def uK(f r m p c d:Nat):Nat→Nat:=fun x=>if x=f then 1 else if x=r then 2 else if x=m then 3 else if x=c then 4 else if x=d then 5 else if x=p then cE 2 else 0
def pW(r m p c d q:Nat):Adr:={ra:=r,rj:=[],m:=m,c:=c,d:=d,dj:=[],tv:=.slice (some ⟨q,0,none⟩) 1 1,φ:=upd (fun _=>none) 2 (some p),α:=fun _=>none}
theorem aCE.st{B n:Nat}{w:World}{f r m p c d q:Nat}(h:aCE B n w f r m p c d q)(hn:n≤512):St w (uK f r m p c d) f (pW r m p c d q) (aH n) []∧∀x,x<B→uK f r m p c d x=0:=by
 obtain⟨⟨es,c0,EX⟩,hM⟩:=h.map;have ne:∀{x y:Nat} {o o':Obj},w.heap[x]?=some o→w.heap[y]?=some o'→o≠o'→x≠y:=fun {x y o o'} h1 h2 h3 e=>by subst e;rw[h1]at h2;exact h3 (Option.some.inj h2)
 have fr:f≠r:=ne h.fst h.root (by simp);have fm:f≠m:=ne h.fst EX (by simp);have fc:f≠c:=ne h.fst h.cur (by simp);have fd:f≠d:=ne h.fst h.com (by simp);have fp:f≠p:=ne h.fst h.node (by simp);have rm:r≠m:=ne h.root EX (by simp);have rc:r≠c:=ne h.root h.cur (by simp);have rd:r≠d:=ne h.root h.com (by simp);have rp:r≠p:=ne h.root h.node (by simp);have mc:m≠c:=ne EX h.cur (by simp);have md:m≠d:=ne EX h.com (by simp);have mp:m≠p:=ne EX h.node (by simp);have cp:c≠p:=ne h.cur h.node (by simp);have dp:d≠p:=ne h.com h.node (by simp);have cd:=h.cd;have lt:∀{x:Nat} {o:Obj},w.heap[x]?=some o→x<w.heap.size:=fun {x o} e=>(Array.getElem?_eq_some_iff.1 e).1;refine⟨⟨none,[],[],⟨fun k hk=>?_,?_,by simp[uK],?_,by simp[uK,pW,Ne.symm fr],hM,by simp[uK,pW,Ne.symm fm,Ne.symm rm],?_,by simp[uK,pW,Ne.symm fc,Ne.symm rc,Ne.symm mc],?_,by simp[uK,pW,Ne.symm fd,Ne.symm rd,Ne.symm md,Ne.symm cd],fun b dd hb=>?_,fun b hb=>?_,by simp[aH,pW,maxLen],?_⟩,fun _=>JrL.start _ _⟩,fun x hx=>?_⟩
 ·unfold uK at hk
  by_cases e1:k=f
  ·rw[e1];exact lt h.fst
  by_cases e2:k=r
  ·rw[e2];exact lt h.root
  by_cases e3:k=m
  ·rw[e3];exact lt EX
  by_cases e4:k=c
  ·rw[e4];exact lt h.cur
  by_cases e5:k=d
  ·rw[e5];exact lt h.com
  by_cases e6:k=p
  ·rw[e6];exact lt h.node
  simp[e1,e2,e3,e4,e5,e6]at hk
 ·have:=h.fst
  simpa [IsC,dC,pW,aH,aGZ,adr] using this
 ·have:=h.root
  simpa [IsC,pW,aH,cS,aT] using this
 ·exact h.cur
 ·have:=h.com
  simpa [IsC,pW,aH,jG,dD,aJG] using this
 ·simp only[aH]at hb
  split at hb
  ·rename_i e
   subst e;cases hb;refine⟨p,by simp[pW,aD],by simp[uK,Ne.symm fp,Ne.symm rp,Ne.symm mp,Ne.symm cp,Ne.symm dp],fun g e=>(by cases e),[],⟨by have:=h.node;simpa [IsC,adr,pW] using this,fun g e=>(by cases e),fun _=>⟨rfl,rfl⟩,by simp[maxLen]⟩⟩
  ·cases hb
 ·simp only[aH]at hb
  split at hb
  ·cases hb
  ·rename_i e
   show upd (fun _=>none) 2 (some p) b=none
   exact aC _ _ e
 ·simp[aH,pW,maxLen];omega
 ·have:=h.hf;have:=h.hr;have:=h.hm;have:=h.hp;have:=h.hc;have:=h.hd
  unfold uK;rw[if_neg (by omega),if_neg (by omega),if_neg (by omega),if_neg (by omega),if_neg (by omega),if_neg (by omega)]
end Go.Proofs.YtaahkgkdpnnhhaaGreat
namespace Go.Proofs.YtaahkgkdpnnhhaaGreat
open Go.RowKit Go.Shelf Fo
variable{l:List An}{n:Nat}
theorem aIA{w:World}{g:Nat}(h:IsC w g (yA.row l) 92){i:Nat}(hi:i<l.length)(x y:Int)(z:ByteArray):
  IsC (((w.setCell ⟨g,i*3,none⟩ (.int .i64 x)).setCell ⟨g,i*3+1,none⟩ (.int .i64 y)).setCell ⟨g,i*3+2,none⟩ (.string z)) g (yA.row (l.set i (x,y,z))) 92:=yA.setAt h hi (x,y,z)
def anP(l:List An)(n:Nat):List An:=l++List.replicate (n-l.length) yA.z
theorem aIW(h:l.length≤n):(anP l n).length=n:=by unfold anP;simp;omega
theorem aIX(h:l.length<n)(a:An):(anP l n).set l.length a=anP (l++[a]) n:=by
 unfold anP;rw[List.set_append_right _ _ (nR _),Nat.sub_self,show n-l.length=(n -(l++[a]).length)+1 by simp;omega,List.replicate_succ,List.set_cons_zero];simp
structure aIT(w:World)(n:Int)(ops:List TO)(e:Ending)(w':World):Prop where
 dev:inB n 8 512=false→e=.returned (.tuple #[.pointer none,.slice none 0 0,.int .i64 1])
 lim:inB n 8 512=true→2000<ops.length→e=.returned (.tuple #[.pointer none,.slice none 0 0,.int .i64 4])
 ok:inB n 8 512=true→ops.length≤2000→∃P ga ρ A J,e=.returned (.tuple #[.pointer (some ⟨P,0,none⟩),.slice (some ⟨ga,0,none⟩) ops.length ops.length,.int .i64 0])∧St w' ρ P A (jO (aH n.toNat) ops) J∧(∀x,x<w.heap.size→ρ x=0)∧IsC w' ga (yA.row (iQ (aH n.toNat) ops)) 92∧ρ ga=0∧w.heap.size≤ga
 bel:Bl w w'
structure GrI(w:World)(f0:fZ)(ops:List TO)(P ga k:Nat)(wr:World):Prop where
 st:∃ρ A J,St wr ρ P A (jO f0 (ops.take k)) J∧(∀x,x<w.heap.size→ρ x=0)∧ρ ga=0
 an:IsC wr ga (yA.row (anP (iQ f0 (ops.take k)) ops.length)) 92
 bel:Bl w wr
theorem aJT(n:Int)(ops:List TO)(v:Value)(w:World)(hv:yO.Sl w v ops)(hl:ops.length≤1048576):Calls Tryz.prog 36 #[.int .i64 n,v] w (aIT w n ops):=by
 obtain⟨va,vc,ig⟩:=hv.len;have HV:=aA (aI hv ig);subst ig;clear hv;go_enter Tryz.func36,Tryz.ntmps36;go_wp2_with fail;refine(eU n 8 512 w).mono ?_;rintro e w1' ⟨rfl,rfl⟩;cases jm:inB n 8 512 with
 | false=>
  have qi:=aA jm;clear jm;go_wp2;refine bodyPost_ret (v:=.tuple #[.pointer none,.slice none 0 0,.int .i64 1]) (by simp[results,Tryz.results36,go_sem]) rfl ?_;exact⟨fun _=>rfl,fun q=>(by rw[qi.out]at q;cases q),fun q=>(by rw[qi.out]at q;cases q),bQ _ _⟩
 | true=>
  have qi:=aA jm;by_cases h2:2000<ops.length
  ·have N8:(2000:Int) <(ops.length:Int):=by omega
   clear jm;go_wp2;refine bodyPost_ret (v:=.tuple #[.pointer none,.slice none 0 0,.int .i64 4]) (by simp[results,Tryz.results36,go_sem]) rfl ?_;exact⟨fun q=>(by rw[qi.out]at q;cases q),fun _ _=>rfl,fun _ q=>absurd q (by omega),bQ _ _⟩
  ·have N8:¬(2000:Int) <(ops.length:Int):=by omega
   have Av:8≤n∧n≤512:=by unfold inB at jm;simpa using jm
   obtain⟨N,hN⟩:∃N:Nat,n=(N:Int):=⟨n.toNat,by omega⟩;have O4:Hid (n.toNat=N):=(show n.toNat=N by omega);subst hN;clear jm;have Pe:=Inv.fresh (n:=N) (by omega) (by omega);have Il:=tK N;have OX:=fun(W:World)=>yA.make ops.length hl W;go_wp2_with fail;refine(qA N (by omega) w).mono ?_;rintro e w2 ⟨P,r,m,p,c,d,q,rfl,Ly,ba⟩;obtain⟨ax,ph⟩:=Ly.st (by omega);obtain⟨ga,ue⟩:=eZ (w2.heap.size);obtain⟨w3,dw⟩:=eZ (w2.alloc (.cells (yA.row (List.replicate ops.length yA.z)) 92));have bx:=bAl dw;have i3:=iNw dw ue;have RQ:(Instr.makeSlice 46 (.int .i64 (ops.length:Int)) (.int .i64 (ops.length:Int))).run Tryz.prog w2=.ok (.slice (some ⟨ga,0,none⟩) ops.length ops.length) w3:=by rw[←dw,←ue];exact OX w2
   have qp:w.heap.size≤ga:=by have:=ba.size;omega
   have qm:Hid (GrI w (aH N) ops P ga 0 w3):=⟨⟨_,_,_,ax.below bx,ph,ax.no0 (Nat.le_of_eq ue)⟩,by simpa [anP,iQ,aEY] using i3,ba.trans (bx.mono ba.size)⟩;clear ax ph Ly i3 OX;go_wp2;go_loopw [24,9,10] (fun i _ _ wr=>∃k:Nat,k≤ops.length∧i=.int .i64 k∧GrI w (aH N) ops P ga k wr) (fun i _ _ _=>ops.length -(intOf i).toNat)
   case atStart=>exact⟨0,by omega,rfl,qm.out⟩
   case round=>
    clear qm dw RQ;obtain⟨k,hk,rfl,hC⟩:=hrel;obtain⟨ρ,A,J,hS,d5,CY⟩:=hC.st;by_cases ai:k<ops.length
    ·obtain⟨g,o,cc,ig,Bg,aa⟩:=aLE HV.out.1 (by omega)
     simp only[Value.slice.injEq,true_and]at ig;obtain⟨rfl,rfl⟩:=ig;have lq:(k:Int) <(ops.length:Int):=by omega
     have vn:=rV Pe Il (ops.take k);obtain⟨s1,s2⟩:=zT (aH N) (ops.take k) (ops.getD k yO.z);rw[←cC ops k yO.z ai]at s1 s2;have Kl:(iQ (aH N) (ops.take k)).length=k:=by rw[lF,List.length_take];omega
     have ox:=aA s1;have pw:=aA s2;have hx:=aa wr k (hC.bel.block g Bg) ai;obtain⟨⟨kind,tree,key,val⟩,GE⟩:∃x,ops.getD k yO.z=x:=⟨_,rfl⟩;rw[GE]at ox pw hx;obtain⟨x0,x1,x2,x3⟩:=hx;obtain⟨B10,IE⟩:=eZ (wr.heap.size);obtain⟨wa,LO⟩:=eZ (wr.alloc (.cells #[.int .i64 kind,.int .i64 tree,.string key,.string val] 63));have we:=bAl LO;have ia:=iNw LO IE;have z0:wa.cell? ⟨B10,0,none⟩=some (.int .i64 kind):=ia.c rfl;have z1:wa.cell? ⟨B10,1,none⟩=some (.int .i64 tree):=ia.c rfl;have z2:wa.cell? ⟨B10,2,none⟩=some (.string key):=ia.c rfl;have z3:wa.cell? ⟨B10,3,none⟩=some (.string val):=ia.c rfl;have TR:=hS.below we;have OA:=hC.an.of (we.block _ hC.an.lt);have xl:Bl w wa:=hC.bel.trans (we.mono hC.bel.size);have Vr:=aIW (l:=iQ (aH N) (ops.take k)) (n:=ops.length) (by omega);have Nn:=aA (fun a=>aIX (l:=iQ (aH N) (ops.take k)) (n:=ops.length) (by omega) a);have Ch:=vn.inv;obtain⟨F,hF⟩:=eZ (jO (aH N) (ops.take k));rw[hF]at ox pw Ch TR;obtain⟨lA,Mu⟩:=eZ (iQ (aH N) (ops.take k));rw[Mu]at pw OA Kl Vr Nn;rw[Kl]at Nn;have SL:=aA OA;have bm:ga<wa.heap.size:=OA.lt;clear aa vn s1 s2 hC hS hF GE Mu OA;go_wp2_with fail;refine(aMP wa ρ P A F J kind tree key val TR Ch).mono ?_;rintro e wb ⟨rfl,ρb,Ab,Jb,P0,Dj,gy⟩;have GZ:=SL.out.frm Dj (fun q=>q CY);have xm:Bl w wb:=xl.trans (Dj.below xl.size fun g q=>Nat.le_of_not_lt fun ql=>q (d5 g ql));have y0:=GZ.cell (k*3);have y1:=GZ.cell (k*3+1);have y2:=GZ.cell (k*3+2);have ya:∀j,j<3→(yA.row (anP lA ops.length))[k*3+j]?=(aCI ((anP lA ops.length).getD k yA.z))[j]?:=fun j hj=>yA.at (anP lA ops.length) (i:=k) (j:=j) (by omega) hj;rw[show(yA.row (anP lA ops.length))[k*3]?=_ from ya 0 (by omega)]at y0;rw[ya 1 (by omega)]at y1;rw[ya 2 (by omega)]at y2;have q0:=GZ.frozen (k*3);have q1:=GZ.frozen (k*3+1);have q2:=GZ.frozen (k*3+2);obtain⟨⟨t0,t1,t2⟩,C6⟩:∃x,(anP lA ops.length).getD k yA.z=x:=⟨_,rfl⟩;rw[C6]at y0 y1 y2;simp only[aCI,List.getElem?_cons_zero,List.getElem?_cons_succ]at y0 y1 y2;have Sg:=aA P0;generalize hR:doM F kind tree key val=R at *;obtain⟨G,x,y,z⟩:=R;simp only[bN];have ol:=aIA GZ (i:=k) (by omega) x y z;rw[Nn.out]at ol;have FW:Frm (fun q=>q=ga) wb (((wb.setCell ⟨ga,k*3,none⟩ (.int .i64 x)).setCell ⟨ga,k*3+1,none⟩ (.int .i64 y)).setCell ⟨ga,k*3+2,none⟩ (.string z)):=
      ((Frm.set (S:=fun q=>q=ga) wb (p:=⟨ga,k*3,none⟩) rfl _).trans (Frm.set (S:=fun q=>q=ga) _ (p:=⟨ga,k*3+1,none⟩) rfl _)).trans (Frm.set (S:=fun q=>q=ga) _ (p:=⟨ga,k*3+2,none⟩) rfl _)
     obtain⟨W5,Ar⟩:=eZ (((wb.setCell ⟨ga,k*3,none⟩ (.int .i64 x)).setCell ⟨ga,k*3+1,none⟩ (.int .i64 y)).setCell ⟨ga,k*3+2,none⟩ (.string z));rw[Ar]at ol FW;have ND:ρb ga=0:=gy ga bm CY;have xd:Hid (GrI w (aH N) ops P ga (k+1) W5):=⟨⟨ρb,Ab,Jb,by rw[ox.out];exact Sg.out.frm (FW.wide fun q _ e=>by rw[e];exact ND),fun q hq=>gy q (lL hq xl.size) (d5 q hq),ND⟩,by rw[pw.out];exact ol,xm.trans (FW.below xm.size fun g e=>by rw[e];exact qp)⟩;clear ol FW GZ P0 Sg Nn ox pw Dj SL ya C6 gy hR;go_wp2;go_roundw
     case rel=>exact⟨k+1,by omega,by go_num,xd.out⟩
     case measure=>simp[intOf];omega
    ·obtain rfl:k=ops.length:=by omega
     have zo:Hid (aIT w (N:Int) ops (.returned (.tuple #[.pointer (some ⟨P,0,none⟩),.slice (some ⟨ga,0,none⟩) ops.length ops.length,.int .i64 0])) wr):=by
      have e:ops.take ops.length=ops:=List.take_of_length_le (nR _);have ea:anP (iQ (aH N) ops) ops.length=iQ (aH N) ops:=by unfold anP;rw[lF];simp
      refine⟨fun q=>(by rw[qi.out]at q;cases q),fun _ q=>absurd q h2,fun _ _=>?_,hC.bel⟩;rw[O4.out];refine⟨P,ga,ρ,A,J,rfl,?_,d5,?_,CY,qp⟩
      ·rw[e]at hS;exact hS
      ·have:=hC.an;rw[e,ea]at this;exact this
     clear hC hS;go_wp2;refine bodyPost_ret (v:=.tuple #[.pointer (some ⟨P,0,none⟩),.slice (some ⟨ga,0,none⟩) ops.length ops.length,.int .i64 0]) (by simp[results,Tryz.results36,go_sem]) rfl ?_;exact zo.out
