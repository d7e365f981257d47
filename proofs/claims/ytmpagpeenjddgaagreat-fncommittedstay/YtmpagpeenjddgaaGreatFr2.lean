import Derived.Lib.SliceRun
import Derived.RangeFuncBox
import Derived.Maps.AppendAt
import Derived.Test.YtmpagpeenjddgaaGreatInv
set_option maxHeartbeats 9999999
set_option maxRecDepth 99999
set_option linter.all false
namespace Go.Proofs.YtmpagpeenjddgaaGreat
open Go.RowKit Go.Shelf
attribute [local go_sem] Oper.semAt_some
theorem jK(F:Fence)(n:Nat)(d:F.fn 113)(b:F.round=none)(x y:Value)(w:World)(hx:∃a l c,x=.slice a l c)(hy:∃a l c,y=.slice a l c):
  CallsIn F n Tryz.prog 113 #[x,y] w fun e w'=>e=.returned (.func (.func 133) #[] #[.pointer (some ⟨w.heap.size,0,none⟩),.pointer (some ⟨w.heap.size+1,0,none⟩)])/\w'=(w.alloc (.cells #[x] 29)).alloc (.cells #[y] 29):=by
 obtain⟨a,l,c,rfl⟩:=hx;obtain⟨f,h,g,rfl⟩:=hy;refine callsIn_of_wp Tryz.func113 rfl d ?_ b;simp only[Tryz.ntmps113,List.size_toArray,List.length_cons,List.length_nil,Nat.reduceAdd,Nat.reduceSub,Array.replicate_succ,Array.replicate_zero,List.push_toArray,List.append_toArray,List.nil_append,List.cons_append];gi_wp2;go_ret;exact⟨rfl,rfl⟩
theorem mU(F:Fence)(n:Nat)(K:F.fn 133)(E:F.round=none)(hn:1<=n)(Bs Bt f:Nat)(a q:Option Addr)(c h:Nat)(zs ys:List Int)(L:ys.length=zs.length)(N:zs.length<=512)(u:8<=zs.length)(w:World)(B:Bs<w.heap.size)(C:Bt<w.heap.size)(_hn₀:f<=w.heap.size)
  (hc:w.cell? ⟨Bs,0,none⟩=some (.slice a zs.length c)) (D:w.cell? ⟨Bt,0,none⟩=some (.slice q ys.length h)) (w0:World) (G:Nts w0 (.slice a zs.length c) zs) (A:Nts w0 (.slice q ys.length h) ys) (P:w0.heap.size<=f) (s:Bl w0 w):
  SeqStopsK F n Tryz.prog 133 #[.pointer (some ⟨Bs,0,none⟩),.pointer (some ⟨Bt,0,none⟩)] (fun x:Blk zs.length=>#[Value.int .i64 (x.1:Int)]) (KpF f Bs Bt) (fun xs=>xs=frs zs ys zs.length zs.length) (fun pre=>∃k,k<=zs.length/\pre=frs zs ys zs.length k) zs.length w:=fun l J v W i _ _ H y=>by
 obtain⟨_,_,e,M⟩:=G.shape;simp only[Value.slice.injEq,true_and]at e;obtain⟨rfl,rfl⟩:=e;obtain⟨b,off,rfl,r⟩:=M (by omega);obtain⟨_,_,e,z⟩:=A.shape;simp only[Value.slice.injEq,true_and]at e;obtain⟨rfl,rfl⟩:=e;obtain⟨g,d,rfl,t⟩:=z (by omega);have I:b<w0.heap.size:=World.block_lt_of_cell? _ _ (r 0 (by omega));have O:g<w0.heap.size:=World.block_lt_of_cell? _ _ (t 0 (by omega));have o:=s.trans (i.mono s.size);exact aIK F n K E hn l Bs Bt f b off g d c h zs ys L N u (by omega) (by omega) J v H W ((i.cell (p:=⟨Bs,0,none⟩) B).trans hc) ((i.cell (p:=⟨Bt,0,none⟩) C).trans D)
  (fun j m=>(o.cell (p:=⟨b,off+j,none⟩) I).trans (r j m)) (fun j m=>(o.cell (p:=⟨g,d+j,none⟩) O).trans (t j m)) y
def low(zs ys:List Int):Int:=match frs zs ys zs.length zs.length with
 | []=>0
 | x :: _=>(x.1:Int)
theorem uU(F:Fence)(n:Nat)(h1:F.fn 134)(h2:F.fn 113)(h3:F.fn 133)(m:F.round=none)(hn:3<=n)(a d:Option Addr)(c f:Nat)(zs ys:List Int)(J:ys.length=zs.length)(V:zs.length<=512)(N:8<=zs.length)(w:World)(U:Nts w (.slice a zs.length c) zs)(Z:Nts w (.slice d ys.length f) ys):
  CallsIn F n Tryz.prog 134 #[.slice a zs.length c,.slice d ys.length f] w fun e W'=>e=.returned (.int .i64 (low zs ys))/\Bl w W':=by
 have Y:1<=n:=by omega
 have O:Hid (ys.length=zs.length):=J;clear J;refine callsIn_of_wp_marks Tryz.func134 rfl h1 ?_ m;simp only[Tryz.ntmps134,List.size_toArray,List.length_cons,List.length_nil,Nat.reduceAdd,Nat.reduceSub,Array.replicate_succ,Array.replicate_zero,List.push_toArray,List.append_toArray,List.nil_append,List.cons_append];gi_wp2_with (gi_at_call 113;refine(jK F (n-1) h2 m _ _ _ ⟨_,_,_,rfl⟩ ⟨_,_,_,rfl⟩).mono ?_;rintro e w' ⟨rfl,rfl⟩);have E:=Boxed.new w 2 (.int .i64 0);have G:=Boxed.new (w.alloc (.cells #[.int .i64 0] 2)) 29 (.slice a zs.length c);have H:=Boxed.new ((w.alloc (.cells #[.int .i64 0] 2)).alloc (.cells #[.slice a zs.length c] 29)) 29 (.slice d ys.length f);simp only[World.size_alloc]at G H;have I:Bl w (((w.alloc (.cells #[.int .i64 0] 2)).alloc (.cells #[.slice a zs.length c] 29)).alloc (.cells #[.slice d ys.length f] 29)):=(((bQ _ w).alloc (nR _) _).alloc (by simp) _).alloc (by simp;omega) _;refine wpIn_rangeFunc_ownF m Y (gf:=133) (lb:=#[.pointer (some ⟨w.heap.size+1,0,none⟩),.pointer (some ⟨w.heap.size+1+1,0,none⟩)]) rfl h3 (enters_of Tryz.func133 (by kernel_rfl) rfl)
  (mU F (n-1) h3 m (by omega) (w.heap.size+1) (w.heap.size+1+1) w.heap.size a d c f zs ys O.out V N _ (by simp) (by simp) (by simp;omega) ((G.alloc _).cell) H.cell w U Z (by omega) I) KpF.trans (KpF.put (by simp;omega) (by simp) (by simp)) (bQ _ _) (fun _=>rfl)
  (fun b W=>(b=[]/\W.cell? ⟨w.heap.size,0,none⟩=some (.int .i64 0)/\W.frozen? ⟨w.heap.size,0,none⟩=false)/\Bl w W)
  (fun k b W=>(k=.ret/\∃x,b=[x]/\W.cell? ⟨w.heap.size,0,none⟩=some (.int .i64 (x.1:Int)))/\Bl w W)
  (OwnFrom.and (Own.from (fun s A B C h o u=>⟨h.1,cell_kept h.2.1 o u,(frozen_kept h.2.1 o u).trans h.2.2⟩) _) (ownFrom_below (nR _) (by simp;omega)))
  (fun k=>OwnFrom.and (Own.from (fun s A B C h o u=>by obtain⟨P,x,Q,R⟩:=h;exact⟨P,x,Q,cell_kept R o u⟩) _) (ownFrom_below (nR _) (by simp;omega)))
  ⟨⟨rfl,((E.alloc _).alloc _).cell,((E.alloc _).alloc _).frozen⟩,I⟩
  (fun x=>{tmps:=#[.slice a zs.length c,.slice d ys.length f,undef,undef,.pointer (some ⟨w.heap.size,0,none⟩),.int .i64 (x.1:Int),.slice a zs.length c,.slice d ys.length f,.func (.func 133) #[] #[.pointer (some ⟨w.heap.size+1,0,none⟩),.pointer (some ⟨w.heap.size+1+1,0,none⟩)],.int .i64 (x.1:Int),undef],defers:=[]}) ?assign ?body ?done ?stop
 case assign=>
  intro l x W K g;gi_wp2;exact g
 case body=>
  rintro l b x W ⟨⟨rfl,j,S⟩,i⟩ _;gi_wp2;exact⟨KeepsOthers.setCell _ _ _,⟨rfl,x,rfl,World.cell?_setCell_same' _ _ _ (by rw[j];rfl)⟩,i.setCell (p:=⟨w.heap.size,0,none⟩) (nR _) _⟩
 case done=>
  rintro D xs W z rfl ⟨⟨M,j,S⟩,i⟩ g;gi_wp2;have y:=(KeepsOthers.setCell W ⟨w.heap.size,0,none⟩ (.int .i64 0)).same D _ g rfl;refine⟨by simp,.inl ⟨_,_,rfl,run_takeDeferred y,?_⟩⟩;have v:=cell_kept (World.cell?_setCell_same' W ⟨w.heap.size,0,none⟩ (.int .i64 0) (by rw[j];rfl)) (grownBy_putObj' _ D (.deferred none)) (fun r e=>by cases e;exact⟨_,y,rfl⟩);refine⟨.int .i64 0,?_,by unfold low;rw[M],(i.setCell (p:=⟨w.heap.size,0,none⟩) (nR _) _).trans (belowK_b (w:=w) (nR _) _ D _ _ (by simp at z;omega) y rfl rfl)⟩;simp[results,Tryz.f134,go_sem,v]
 case stop=>
  rintro D k b W z ⟨q,T,X⟩ ⟨⟨rfl,x,rfl,j⟩,i⟩ g;gi_wp2;refine⟨by simp,.inl ⟨_,_,rfl,run_takeDeferred g,?_⟩⟩;have v:=cell_kept j (grownBy_putObj' _ D (.deferred none)) (fun r e=>by cases e;exact⟨_,g,rfl⟩);have L:low zs ys=(x.1:Int):=by
   obtain⟨t,ht⟩:=sI zs ys zs.length T;unfold low;rw[<-ht,<-X];rfl
  refine⟨.int .i64 (x.1:Int),?_,by rw[L],i.trans (belowK_b (w:=w) (nR _) W D _ _ (by simp at z;omega) g rfl rfl)⟩;simp[results,Tryz.f134,go_sem,v]
theorem tA(a b:Option Addr)(c d:Nat)(zs ys:List Int)(g:ys.length=zs.length)(i:zs.length<=512)(f:8<=zs.length)(w:World)(h:Nts w (.slice a zs.length c) zs)(j:Nts w (.slice b ys.length d) ys):
  Calls Tryz.prog 134 #[.slice a zs.length c,.slice b ys.length d] w fun e W'=>e=.returned (.int .i64 (low zs ys))/\Bl w W':=
 (callsIn_wide (n:=3)).1 (uU Fence.wide 3 trivial trivial trivial rfl (nR _) a b c d zs ys g i f w h j)
end Go.Proofs.YtmpagpeenjddgaaGreat
namespace Go.Proofs.YtmpagpeenjddgaaGreat
open Go.RowKit
def frI(zs ys:List Int)(n k:Nat):List Int:=(frs zs ys n k).map fun x=>(x.1:Int)
theorem sG(zs ys:List Int)(n k:Nat):(frI zs ys n k).length<=k:=by
 simp only[frI,List.length_map];exact jZ zs ys n k
theorem aFI(zs ys:List Int)(n k i:Nat)(hn:n<=1048576):-9223372036854775808<=(frI zs ys n k).getD i 0/\(frI zs ys n k).getD i 0<=9223372036854775807:=by
 by_cases a:i <(frs zs ys n k).length
 ·have:=(frs zs ys n k)[i].2
  simp only[frI,gD,List.getElem?_map,gE a,Option.map_some,Option.getD_some];omega
 ·simp[frI,List.getElem?_eq_none (Nat.le_of_not_lt a)]
theorem sQ(a z:Option Addr)(c B:Nat)(zs ys:List Int)(w:World)(E:Nts w (.slice a zs.length c) zs)(F:Nts w (.slice z ys.length B) ys)(C:ys.length=zs.length)(W:zs.length<=512)(P:8<=zs.length):
  Calls Tryz.prog 65 #[.slice a zs.length c,.slice z ys.length B] w fun e w'=>∃u,e=.returned u/\dJ w.heap.size w' u (frI zs ys zs.length zs.length)/\Bl w w':=by
 obtain⟨_,_,j,D⟩:=E.shape;simp only[Value.slice.injEq,true_and]at j;obtain⟨rfl,rfl⟩:=j;obtain⟨b,off,rfl,l⟩:=D (by omega);obtain⟨_,_,j,v⟩:=F.shape;simp only[Value.slice.injEq,true_and]at j;obtain⟨rfl,rfl⟩:=j;obtain⟨q,d,rfl,m⟩:=v (by omega);have L:b<w.heap.size:=World.block_lt_of_cell? _ _ (l 0 (by omega));have H:q<w.heap.size:=World.block_lt_of_cell? _ _ (m 0 (by omega));have t:Hid (ys.length=zs.length):=C;clear C D v E F;go_enter Tryz.func65,Tryz.ntmps65;go_wp2;go_loopw [5,6] (fun u i wr=>∃k:Nat,2<=k/\k<=zs.length/\i=.int .i64 k/\dJ w.heap.size wr u (frI zs ys zs.length k)/\Bl w wr) (fun _ i _=>zs.length -(intOf i).toNat)
 case atStart=>exact⟨2,nR _,by omega,rfl,dJ.lit _ _ (nR _) _ rfl,iQ _ _⟩
 case round=>
  obtain⟨k,O,V,rfl,h,f⟩:=hrel;obtain⟨X,Y,G⟩:=h.shape;subst G;have I:=f.size;have N:(frI zs ys zs.length k).length<8589934592:=by have:=sG zs ys zs.length k;omega
  by_cases o:k<zs.length
  ·have g1:wr.cell? ⟨b,off+k,none⟩=some (.int .i64 (zs.getD k 0)):=(f.cell (p:=⟨b,off+k,none⟩) L).trans (l k o)
   have T:wr.cell? ⟨q,d+k,none⟩=some (.int .i64 (ys.getD k 0)):=(f.cell (p:=⟨q,d+k,none⟩) H).trans (m k (by rw[t.out];exact o));have U:(k:Int) <(zs.length:Int):=by omega
   have R:(k:Int) <(ys.length:Int):=by rw[t.out];omega
   have n:Hid (isF zs ys k=(zs.getD k 0 == 0 && ys.getD k 0 == 0)):=rfl;generalize zs.getD k 0=x at *;generalize ys.getD k 0=y at *;clear l m;by_cases r:x=0
   ·subst r
    by_cases s:y=0
    ·subst s
     have g:Hid (frI zs ys zs.length (k+1)=frI zs ys zs.length k++[(k:Int)]):=by
      unfold frI;rw[wZ zs ys _ k ⟨O,o⟩ (by rw[n.out];rfl)];simp[Hid]
     go_wp2_with (first | (at_builtin;refine kP rfl _ _ rfl _ h rfl rfl N I ?_;intro Z w1 A J S Q) | go_in)
     rw[<-g.out]at A;go_roundw
     case rel=>exact⟨k+1,by omega,by omega,by go_num,A,f.trans J⟩
     case measure=>simp[intOf];omega
    ·have M:(y == 0)=false:=by simpa using s
     have g:Hid (frI zs ys zs.length (k+1)=frI zs ys zs.length k):=by
      unfold frI;rw[sH zs ys _ k fun e=>by have:=e.2.2;rw[n.out,M]at this;simp at this];rfl
     clear s;go_wp2;go_roundw
     case rel=>exact⟨k+1,by omega,by omega,by go_num,by rw[g.out];exact h,f⟩
     case measure=>simp[intOf];omega
   ·have K:(x == 0)=false:=by simpa using r
    have g:Hid (frI zs ys zs.length (k+1)=frI zs ys zs.length k):=by
     unfold frI;rw[sH zs ys _ k fun e=>by have:=e.2.2;rw[n.out,K]at this;simp at this];rfl
    clear r;go_wp2;go_roundw
    case rel=>exact⟨k+1,by omega,by omega,by go_num,by rw[g.out];exact h,f⟩
    case measure=>simp[intOf];omega
  ·obtain rfl:k=zs.length:=by omega
   clear l m;go_wp2;go_ret;exact⟨_,rfl,h,f⟩
section
variable {P : Program} {ops : Array Oper} {Q : Exit -> Act -> World -> Prop} {md : Region.Mode} {S : World -> Prop} {L : Nat}
def dep(md:Region.Mode)(ops:Array Oper):Nat->Nat->Nat->Bool
 | 0,_,_=>false
 | f+1,L,i=>((ops[L]?).map fun o=>o.after.toList.any fun e=>Region.binds md e && (e.on == i || dep md ops f e.on i)).getD false
def kT(md:Region.Mode)(ops:Array Oper)(listed:Array Bool):Prop:=
 ∀j o,ops[j]?=some o->listed.getD j true=true->∀e∈o.after,Region.binds md e=true->listed.getD e.on true=true
def wS(md:Region.Mode)(ops:Array Oper)(listed:Array Bool):Bool:=
 (List.range ops.size).all fun j=>!(listed.getD j true) || ((ops[j]?).map fun o=>o.after.toList.all fun e=>!(Region.binds md e) || listed.getD e.on true).getD true
theorem nM{listed:Array Bool}(h:wS md ops listed=true):kT md ops listed:=fun j o c g e f d=>by
 have a:=List.all_eq_true.1 h j (List.mem_range.2 (Array.getElem?_eq_some_iff.1 c).1);rw[c,g]at a;simp only[Bool.not_true,Bool.false_or,Option.map_some,Option.getD_some]at a;have b:=List.all_eq_true.1 a e (by simpa using f);rw[d]at b;simpa using b
theorem aDT{listed:Array Bool}{j k:Nat}(h:listed.getD k true=true):(listed.setIfInBounds j true).getD k true=true:=by
 simp only[Array.getD_eq_getD_getElem?,Array.getElem?_setIfInBounds]at *;split
 ·split<;>simp
 ·exact h
theorem qF{listed:Array Bool}{j:Nat}(h:j∈Region.ready md ops listed):∃o,ops[j]?=some o/\∀e∈o.after,Region.binds md e=true->listed.getD e.on true=true:=by
 obtain⟨_,o,f,a⟩:=mem_ready.1 h;refine⟨o,f,fun e d c=>?_⟩;have:=a e d c;simp only[Array.getD_eq_getD_getElem?]at this |-;cases g:listed[e.on]? with
 | none=>rfl
 | some b=>rw[g]at this;simpa using this
theorem kT.step{listed:Array Bool}{j:Nat}(h:kT md ops listed)(i:j∈Region.ready md ops listed):kT md ops (listed.setIfInBounds j true):=fun k o f l e d c=>by
 by_cases b:k=j
 ·subst b
  obtain⟨m,a,g⟩:=qF i;rw[f]at a;cases a;exact aDT (g e d c)
 ·refine aDT (h k o f ?_ e d c)
  rwa [getD_set_ne true (Ne.symm b)]at l
theorem rT{listed:Array Bool}(h:kT md ops listed){i:Nat}:∀(f L:Nat) (o:Oper),ops[L]?=some o->(∀e∈o.after,Region.binds md e=true->listed.getD e.on true=true)->dep md ops f L i=true->listed.getD i true=true
 | 0,_,_,_,_,a=>by simp[dep]at a
 | f+1,L,o,l,g,a=>by
  simp only[dep,l,Option.map_some,Option.getD_some,List.any_eq_true,Bool.and_eq_true,Bool.or_eq_true,beq_iff_eq]at a;obtain⟨e,k,j,a⟩:=a;have c:=g e (by simpa using k) j;rcases a with a | a
  ·rw[<-a];exact c
  ·cases b:ops[e.on]? with
   | none=>
    cases f with
    | zero=>simp[dep]at a
    | succ f=>simp[dep,b]at a
   | some d=>exact rT h f e.on d b (h e.on d b c) a
theorem vG{listed:Array Bool}(h:kT md ops listed){f i:Nat}(hd:dep md ops f L i=true)(e:i∈Region.ready md ops listed)(d:L∈Region.ready md ops listed):i=L:=by
 obtain⟨o,g,b⟩:=qF d;have c:=rT h f L o g b hd;have a:=(mem_ready.1 e).1;rw[c]at a;cases a
theorem aBA{i fd:Nat}(I:dep md ops fd L i=true){oi:Oper}{v:Value}(s:ops[i]?=some oi)(A:∀(j:Nat) (o:Oper) cs b,ops[j]?=some o->o.op≠.select cs b)
  (N:∀c a w,Q (.panic c) (a.put oi.dst v) w->Q (.panic c) a w) (fuel:Nat):
  ∀(listed:Array Bool) (a:Act) (w:World),kT md ops listed->
   (∀j oj,ops[j]?=some oj->j≠i->listed.getD j true=false->(∀e∈oj.after,Region.binds md e=true->e.on≠i)->oi.apart ops oj=true)->
   i∈Region.ready md ops listed->YieldsIf P ops S oi v a->S w->
   eC P md ops Q S L fuel (listed.setIfInBounds i true) (a.put oi.dst v) w->eC P md ops Q S L (fuel+1) listed a w:=by
 induction fuel with
 | zero=>
  intro listed a w _ _ g q m H;refine⟨fun h=>by simp[h]at g,fun j f=>?_⟩;by_cases d:j=i
  ·subst d
   exact q.wpOp s m ⟨fun _=>m,H⟩
  ·have U:=ready_mono f d
   simp[H.1]at U
 | succ fuel ih=>
  intro listed a w u y g q m H;refine⟨fun h=>by simp[h]at g,fun j f=>?_⟩;by_cases d:j=i
  ·subst d
   exact q.wpOp s m ⟨fun _=>m,H⟩
  ·have E:j≠L:=fun e=>d (e.trans (vG u I g (e▸f)).symm)
   obtain⟨z,oj,r,G⟩:=mem_ready.1 f;have B:∀e∈oj.after,Region.binds md e=true->e.on≠i:=fun e R O D=>by
    have l:=G e R O;have p:=(mem_ready.1 g).1;rw[D]at l;simp only[Array.getD_eq_getD_getElem?]at p l;cases x:listed[i]? with
    | none=>simp[x]at p
    | some b=>simp[x]at p l;rw[p]at l;cases l
   have J:=wpOp_putIf r (y j oj r d z B) (fun cs b=>A i oi cs b s) (fun cs b=>A j oj cs b r) N q (H.2 j (ready_mono f d));refine wpOp_mono (fun F w' K=>?_) J;obtain⟨Y,t,M⟩:=K;refine⟨t,ih (listed.setIfInBounds j true) F w' (u.step f) (fun k X T V C W=>y k X T V ?_ W) (ready_mono g (Ne.symm d)) Y (t E) ?_⟩
   ·by_cases n:j=k
    ·exact n▸z
    ·rwa [getD_set_ne true n]at C
   ·rw[Array.setIfInBounds_comm _ _ d]
    exact M
theorem aV{i:Nat}{oi:Oper}(t:Nat)(v:Value){fuel:Nat}{listed:Array Bool}{a:Act}{w:World}(d:dep md ops ops.size L i=true)(l:wS md ops listed=true)(b:ops[i]?=some oi)
  (k:Region.noSelect ops=true) (g:Region.free md ops listed i=true) (hr:(Region.ready md ops listed).contains i=true)
  (e:∀c a w,Q (.panic c) (a.put oi.dst v) w->Q (.panic c) a w) (j:oi.guard=none) (ht:oi.dst=some t) (f:S w) (hy:∀w,S w->(execOp a.eval oi).run P w=.ok (.value v) w)
  (h:eC P md ops Q S L fuel (listed.setIfInBounds i true) (a.put (some t) v) w):eC P md ops Q S L (fuel+1) listed a w:=
 aBA d b (Region.noSelect_spec k) e fuel listed a w (nM l) (Region.free_spec b g) (by simpa using hr) (.inl ⟨by simp[Region.wanted,j],hy⟩) f (by rw[ht];exact h)
end
end Go.Proofs.YtmpagpeenjddgaaGreat
namespace Go.Proofs.YtmpagpeenjddgaaGreat
open Go.RowKit
variable{a:Act}{ops:Array Oper}{Q:Exit->Act->World->Prop}{ys zs:List Int}{rest:List Oper}{j n:Nat}{o:Oper}{w:World}
theorem aLT:(Tryz.prog.info? 156).map (fun i=>(i.zero,i.size,i.bytes))=some (some (.agg #[.int .i64 0,.int .i64 0,.int .i64 0]),3,24):=by kernel_rfl
theorem dW(A:o.guard=none)(s x:Operand)
  (w:o.op=.call {callee:=.builtin .append,args:=#[s,x],argTypes:=#[81,81]})
  {base:Nat} {w0:World} {v:Value} {rs:List (Int×Int×Int)} (p q r:Int) (d:fG base w0 v rs) (y:a.eval s=v) (hx:a.eval x=.slice (some ⟨w0.heap.size,0,none⟩) 1 1)
  (D:rs.length<1048576) (m:base<=w0.heap.size)
  (h:∀v' w',fG base w' v' (rs++[(p,q,r)])->Below base w0 w'->w0.heap.size<=w'.heap.size->wpList Tryz.prog ops Q rest (a.put o.dst v') w'):
  wpList Tryz.prog ops Q (o :: rest) a (w0.alloc (.cells #[.int .i64 p,.int .i64 q,.int .i64 r] 156)):=by
 obtain⟨z,n,c⟩:=Option.map_eq_some_iff.1 aLT;simp only[Prod.mk.injEq]at c;obtain⟨C,B,g⟩:=c;refine wpList_append_own _ A s x 81 w base 156 z _ 3 24 Tryz.underlying81 n C B g rfl (by decide) v _ _ y (World.ownsRow.alloc d _) ⟨w0.heap.size,0,none⟩ 1 1 [.int .i64 p,.int .i64 q,.int .i64 r] hx rfl ?_ ?_ ?_ ?_ ?_ ?_
 ·intro j u b
  match j,b with
  | 0,b=>simp at b;subst b;simp[Addr.add,World.cell?_alloc_at]
  | 1,b=>simp at b;subst b;simp[Addr.add,World.cell?_alloc_at]
  | 2,b=>simp at b;subst b;simp[Addr.add,World.cell?_alloc_at]
 ·intro u f;simp at f;rcases f with rfl | rfl | rfl<;>rfl
 ·unfold maxLen;omega
 ·omega
 ·simp;omega
 ·intro v' w' l e _
  have i:Below base w0 w':=((bQ base w0).alloc m _).grown e (by simp;omega) (fun k t=>(d.lt k t).1);refine h v' w' ?_ i (by have:=e.size;simp at this;omega);unfold fG;rw[jY];simpa [eY] using l
theorem fG.eo{base:Nat}{a:Option Addr}{cap:Nat}{pre:List (Int×Int×Int)}{x y z:Int}(h:fG base w (.slice a (pre.length+1) cap) (pre++[(x,y,z)])):
  ∃g,a=some ⟨g,0,none⟩/\base<=g/\g<w.heap.size/\w.cell? ⟨g,pre.length*3+1,none⟩=some (.int .i64 y)/\w.frozen? ⟨g,pre.length*3+1,none⟩=false/\
   ∀u,fG base (w.setCell ⟨g,pre.length*3+1,none⟩ (.int .i64 u)) (.slice a (pre.length+1) cap) (pre++[(x,u,z)])/\Below base w (w.setCell ⟨g,pre.length*3+1,none⟩ (.int .i64 u)):=by
 have f:(pre++[(x,y,z)]).length=pre.length+1:=by simp
 have b:w.ownsRow base 156 3 (.slice a (pre.length+1) cap) (pre.length+1) (eY (pre++[(x,y,z)])):=by rw[<-f];rw[<-f]at h;exact h
 have k:=b.lt;rcases b.2 with⟨_,e⟩ | ⟨g,c,m,i,d,o,q⟩
 ·omega
 ·simp only[Value.slice.injEq,true_and]at i
  obtain⟨rfl,rfl⟩:=i;have l:=vI (pre++[(x,y,z)]) pre.length (by simp);refine⟨g,rfl,d,(k g rfl).2,?_,b.frozenAt _,fun u=>?_⟩
  ·rw[b.cellAt _ (by omega),l.2.1];simp
  ·obtain⟨j,r⟩:=b.stored (pre.length*3+1) (.int .i64 u)
   refine⟨?_,(bQ base w).setCell (p:=⟨g,pre.length*3+1,none⟩) d _⟩;have n:(eY (pre++[(x,y,z)])).set (pre.length*3+1) (.int .i64 u)=eY (pre++[(x,u,z)]):=by
    rw[jY,jY,List.set_append_right _ _ (by rw[nU];omega),nU,show pre.length*3+1-pre.length*3=1 by omega];rfl
   rw[n]at j;unfold fG;rw[show(pre++[(x,u,z)]).length=pre.length+1 by simp];exact j
theorem belowA'(w:World)(o:Obj):Bl w (w.alloc o):=(bQ _ _).alloc (nR _) _
def bfr(zs:List Int)(k:Nat):Int:=if k=0 then 0 else zs.getD (k-1) 0
theorem yL(zs:List Int)(k:Nat):bfr zs (k+1)=zs.getD k 0:=by simp[bfr]
theorem rns_more'(zs:List Int)(k:Nat)(h:zs.getD k 0≠0)(he:zs.getD k 0=bfr zs k):
  ∃(pre:List (Int×Int×Int)) (a b c:Int),rns zs k=pre++[(a,b,c)]/\rns zs (k+1)=pre++[(a,b+1,c)]/\0<=b/\b<=k:=by
 match k with
 | 0=>exact absurd he h
 | k+1=>
  rw[yL]at he;obtain⟨pre,a,b,c,d,e,f,g⟩:=aJO zs k h he.symm;exact⟨pre,a,b,c,d,e,f,by omega⟩
theorem aCM(v:Value)(zs:List Int)(w:World)(s:Nts w v zs)(Z:zs.length<=512):
  Calls Tryz.prog 138 #[v] w fun e w'=>∃u,e=.returned u/\fG w.heap.size w' u (rns zs zs.length)/\Bl w w':=by
 obtain⟨a,L,rfl,r⟩:=s.shape;go_enter Tryz.func138,Tryz.ntmps138;go_wp2;go_loopw [3,4,9] (fun u K i wr=>∃k:Nat,k<=zs.length/\i=.int .i64 k/\K=.int .i64 (bfr zs k)/\fG w.heap.size wr u (rns zs k)/\Bl w wr) (fun _ _ i _=>zs.length -(intOf i).toNat)
 case atStart=>exact⟨0,Nat.zero_le _,rfl,rfl,fG.start _ _,bQ _ _⟩
 case round=>
  obtain⟨k,Y,rfl,rfl,f,j⟩:=hrel;have N:=tS zs k;obtain⟨ua,uc,E⟩:=f.shape;subst E;have J:=j.size;by_cases H:k<zs.length
  ·obtain⟨b,off,rfl,o⟩:=r (by omega)
   have M:b<w.heap.size:=World.block_lt_of_cell? _ _ (o 0 (by omega));have g1:wr.cell? ⟨b,off+k,none⟩=some (.int .i64 (zs.getD k 0)):=(j.cell (p:=⟨b,off+k,none⟩) M).trans (o k H);have l:Hid (bfr zs (k+1)=zs.getD k 0):=yL zs k;clear r o s;by_cases d:zs.getD k 0=0
   ·have F:Hid (rns zs (k+1)=rns zs k):=aJP zs k d
    rw[d]at g1 l;clear d;go_wp2;go_roundw
    case rel=>exact⟨k+1,by omega,by go_num,by rw[l.out],by rw[F.out];exact f,j⟩
    case measure=>simp[intOf];omega
   ·have Q:(zs.getD k 0 == 0)=false:=by simpa using d
    by_cases h:zs.getD k 0=bfr zs k
    ·obtain⟨c,x,y,z,q,B,T,R⟩:=rns_more' zs k d h
     have m:Hid (rns zs (k+1)=c++[(x,y+1,z)]):=B;have n:(rns zs k).length=c.length+1:=by rw[q];simp
     rw[n]at f N;rw[n];rw[q]at f;rw[<-h];obtain⟨g,rfl,li,ws,c1,W,t⟩:=f.eo;have A:Hid _:=t (y+1);have S:(zs.getD k 0 == zs.getD k 0)=true:=by simp
     have sx:(c.length:Int) <((c.length+1:Nat):Int):=by omega
     generalize zs.getD k 0=O at *;clear f t h d q B n;go_wp2;go_roundw
     case rel=>exact⟨k+1,by omega,by go_num,by rw[l.out],by rw[m.out];exact A.out.1,j.trans A.out.2⟩
     case measure=>simp[intOf];omega
    ·have U:(zs.getD k 0 == bfr zs k)=false:=by simpa using h
     have m:Hid (rns zs (k+1)=rns zs k++[((k:Int),1,zs.getD k 0)]):=aME zs k d (by
      unfold bfr at h;by_cases C:k=0
      ·exact .inl C
      ·rw[if_neg C]at h;exact .inr (Ne.symm h))
     have P:(rns zs k).length<1048576:=by omega
     generalize zs.getD k 0=O at *;generalize bfr zs k=V at *;clear d h;go_wp2_with (first | (at_builtin;refine dW rfl _ _ rfl _ _ _ f rfl rfl P J ?_;intro v' w1 D I X) | go_in);rw[<-m.out]at D;go_roundw
     case rel=>exact⟨k+1,by omega,by go_num,by rw[l.out],D,j.trans I⟩
     case measure=>simp[intOf];omega
  ·have G:k=zs.length:=by omega
   subst G;clear r s;go_wp2;go_ret;exact⟨_,rfl,f,j⟩
theorem aMW{i:Nat}(h:¬(zs.getD i 0≠0/\(i=0\/zs.getD (i-1) 0≠zs.getD i 0))):st zs i=false:=by
 rw[<-Bool.not_eq_true,kK];exact h
theorem aCB(v:Value)(zs:List Int)(w:World)(R:Nts w v zs)(hl:zs.length<=512):
  Calls Tryz.prog 66 #[v] w fun e w'=>∃u,e=.returned u/\fG w.heap.size w' u (rns zs zs.length)/\Bl w w':=by
 obtain⟨a,cap,rfl,Q⟩:=R.shape;go_enter Tryz.func66,Tryz.ntmps66;go_wp2;go_loopw [3,4] (fun u i wr=>∃k:Nat,k<=zs.length/\i=.int .i64 k/\fG w.heap.size wr u (srn zs zs.length k)/\Bl w wr) (fun _ i _=>zs.length -(intOf i).toNat)
 case atStart=>exact⟨0,Nat.zero_le _,rfl,fG.lit _ _ (nR _) _ rfl,belowA' _ _⟩
 case round=>
  obtain⟨k,hk,rfl,t,x⟩:=hrel;have uf:=aCQ zs zs.length k;obtain⟨W,X,Y⟩:=t.shape;subst Y;have I:=x.size;by_cases ak:k<zs.length
  ·obtain⟨b,off,rfl,N⟩:=Q (by omega)
   have lu:b<w.heap.size:=World.block_lt_of_cell? _ _ (N 0 (by omega));have M:∀j,j<zs.length->wr.cell? ⟨b,off+j,none⟩=some (.int .i64 (zs.getD j 0)):=fun j hj=>(x.cell (p:=⟨b,off+j,none⟩) lu).trans (N j hj);have g1:=M k ak;have H:Hid (∀j,j<zs.length->wr.cell? ⟨b,off+j,none⟩=some (.int .i64 (zs.getD j 0))):=M;obtain⟨f,l⟩:∃z,Hid (zs.getD k 0=z):=⟨_,rfl⟩;rw[l.out]at g1;clear M;have hi:(k:Int) <(zs.length:Int):=by omega
   clear Q N R;by_cases y:zs.getD k 0=0
   ·have L:Hid (srn zs zs.length (k+1)=srn zs zs.length k):=aKD _ _ _ (aMW fun h=>h.1 y)
    rw[l.out]at y;subst y;go_wp2;go_quiet (fail);go_wp2;go_roundw
    case rel=>exact⟨k+1,by omega,by go_num,by rw[L.out];exact t,below_drewN x _⟩
    case measure=>simp[intOf];omega
   ·have Kv:(f == 0)=false:=by rw[<-l.out];simpa using y
    by_cases c:0<k/\zs.getD (k-1) 0=zs.getD k 0
    ·have L:Hid (srn zs zs.length (k+1)=srn zs zs.length k):=aKD _ _ _ (aMW fun h=>by
      rcases h.2 with e | e
      ·omega
      ·exact e c.2)
     have J:=c.1;have ci:IntKind.i64.wrap ((k:Int)-1)=((k-1:Nat):Int):=(IntWalk.i64_in _ ⟨by omega,by omega⟩).trans (by omega);have fj:((k-1:Nat):Int) <(zs.length:Int):=by omega
     have V:=H.out (k-1) (by omega);rw[c.2,l.out]at V;have U:(f == f)=true:=by simp
     generalize k-1=k1 at *;clear c y;go_wp2;go_quiet (fail);go_wp2;go_roundw
     case rel=>exact⟨k+1,by omega,by go_num,by rw[L.out];exact t,below_drewN x _⟩
     case measure=>simp[intOf];omega
    ·have K:st zs k=true:=kK.2 ⟨y,by
      by_cases J:k=0
      ·exact .inl J
      ·exact .inr fun e=>c ⟨by omega,e⟩⟩
     by_cases J:0<k
     ·have Zn:(zs.getD (k-1) 0 == f)=false:=by rw[<-l.out];simpa using fun e=>c ⟨J,e⟩
      have ci:IntKind.i64.wrap ((k:Int)-1)=((k-1:Nat):Int):=(IntWalk.i64_in _ ⟨by omega,by omega⟩).trans (by omega);have fj:((k-1:Nat):Int) <(zs.length:Int):=by omega
      have V:=H.out (k-1) (by omega);generalize zs.getD (k-1) 0=zj at *;generalize k-1=k1 at *;have G:Hid (st zs k=true):=K;have E:Hid (∀n,fG w.heap.size (wr.drewN n) (.slice W (srn zs zs.length k).length X) (srn zs zs.length k)):=fun _=>t;clear c y K t;go_wp2;go_quiet (fail);go_wp2;go_loopw [5,6] (fun n i T=>∃m:Nat,k+m<=zs.length/\i=.int .i64 ((k+m:Nat):Int)/\n=.int .i64 m/\chQ zs k m=m/\∃q,T=wr.drewN q) (fun _ i _=>zs.length -(intOf i).toNat)
      case atStart=>exact⟨0,by omega,rfl,rfl,rfl,_,rfl⟩
      case round=>
       obtain⟨m,hm,rfl,rfl,g,q,rfl⟩:=hrel;by_cases r:k+m<zs.length
       ·have P:=H.out (k+m) r
        by_cases o:zs.getD (k+m) 0=zs.getD k 0
        ·have d:chQ zs k (m+1)=m+1:=by simp only[chQ];rw[if_pos ⟨g,o⟩]
         have U:(f == f)=true:=by simp
         rw[o,l.out]at P;have F:((k+m:Nat):Int) <(zs.length:Int):=by omega
         have Z:Hid (k+(m+1)=k+m+1):=rfl;generalize E0:k+m=B at *;clear g o;go_wp2;go_quiet (fail);go_wp2;go_roundw
         case rel=>exact⟨m+1,by omega,by go_num,by go_num,d,_,rfl⟩
         case measure=>simp[intOf];omega
        ·have Kw:(zs.getD (k+m) 0 == f)=false:=by rw[<-l.out];simpa using o
         have d:chQ zs k (zs.length-k)=m:=by
          have:=wQ g o (zs.length-k-m)
          rwa [show m+(zs.length-k-m)=zs.length-k by omega]at this
         have C:Hid (srn zs zs.length (k+1)=srn zs zs.length k++[((k:Int),(m:Int),f)]):=by rw[<-d,<-l.out];exact rF _ _ _ G.out
         have F:((k+m:Nat):Int) <(zs.length:Int):=by omega
         have D:(srn zs zs.length k).length<1048576:=by omega
         generalize E0:k+m=B at *;generalize zs.getD B 0=zm at *;clear g o d;go_wp2;go_quiet (fail);go_wp2_with (first | (at_builtin;refine dW rfl _ _ rfl _ _ _ (E.out _) rfl rfl D I ?_;intro S w1 s A O) | go_in);rw[<-C.out]at s;go_roundw
         case rel=>exact⟨k+1,by omega,by go_num,s,(below_drewN x _).trans A⟩
         case measure=>simp[intOf];omega
       ·have d:chQ zs k (zs.length-k)=m:=by rw[show zs.length-k=m by omega];exact g
        have C:Hid (srn zs zs.length (k+1)=srn zs zs.length k++[((k:Int),(m:Int),f)]):=by rw[<-d,<-l.out];exact rF _ _ _ G.out
        have D:(srn zs zs.length k).length<1048576:=by omega
        have F:¬((k+m:Nat):Int) <(zs.length:Int):=by omega
        generalize E0:k+m=B at *;clear g d;go_wp2;go_quiet (fail);go_wp2_with (first | (at_builtin;refine dW rfl _ _ rfl _ _ _ (E.out _) rfl rfl D I ?_;intro S w1 s A O) | go_in);rw[<-C.out]at s;go_roundw
        case rel=>exact⟨k+1,by omega,by go_num,s,(below_drewN x _).trans A⟩
        case measure=>simp[intOf];omega
     ·have SJ:k=0:=by omega
      have Zh:¬(0:Int) <(k:Int):=by omega
      have G:Hid (st zs k=true):=K;have E:Hid (∀n,fG w.heap.size (wr.drewN n) (.slice W (srn zs zs.length k).length X) (srn zs zs.length k)):=fun _=>t;clear c y K t SJ;go_wp2;go_quiet (fail);go_wp2;go_loopw [5,6] (fun n i T=>∃m:Nat,k+m<=zs.length/\i=.int .i64 ((k+m:Nat):Int)/\n=.int .i64 m/\chQ zs k m=m/\∃q,T=wr.drewN q) (fun _ i _=>zs.length -(intOf i).toNat)
      case atStart=>exact⟨0,by omega,rfl,rfl,rfl,_,rfl⟩
      case round=>
       obtain⟨m,hm,rfl,rfl,g,q,rfl⟩:=hrel;by_cases r:k+m<zs.length
       ·have P:=H.out (k+m) r
        by_cases o:zs.getD (k+m) 0=zs.getD k 0
        ·have d:chQ zs k (m+1)=m+1:=by simp only[chQ];rw[if_pos ⟨g,o⟩]
         have U:(f == f)=true:=by simp
         rw[o,l.out]at P;have F:((k+m:Nat):Int) <(zs.length:Int):=by omega
         have Z:Hid (k+(m+1)=k+m+1):=rfl;generalize E0:k+m=B at *;clear g o;go_wp2;go_quiet (fail);go_wp2;go_roundw
         case rel=>exact⟨m+1,by omega,by go_num,by go_num,d,_,rfl⟩
         case measure=>simp[intOf];omega
        ·have Kw:(zs.getD (k+m) 0 == f)=false:=by rw[<-l.out];simpa using o
         have d:chQ zs k (zs.length-k)=m:=by
          have:=wQ g o (zs.length-k-m)
          rwa [show m+(zs.length-k-m)=zs.length-k by omega]at this
         have C:Hid (srn zs zs.length (k+1)=srn zs zs.length k++[((k:Int),(m:Int),f)]):=by rw[<-d,<-l.out];exact rF _ _ _ G.out
         have F:((k+m:Nat):Int) <(zs.length:Int):=by omega
         have D:(srn zs zs.length k).length<1048576:=by omega
         generalize E0:k+m=B at *;generalize zs.getD B 0=zm at *;clear g o d;go_wp2;go_quiet (fail);go_wp2_with (first | (at_builtin;refine dW rfl _ _ rfl _ _ _ (E.out _) rfl rfl D I ?_;intro S w1 s A O) | go_in);rw[<-C.out]at s;go_roundw
         case rel=>exact⟨k+1,by omega,by go_num,s,(below_drewN x _).trans A⟩
         case measure=>simp[intOf];omega
       ·have d:chQ zs k (zs.length-k)=m:=by rw[show zs.length-k=m by omega];exact g
        have C:Hid (srn zs zs.length (k+1)=srn zs zs.length k++[((k:Int),(m:Int),f)]):=by rw[<-d,<-l.out];exact rF _ _ _ G.out
        have D:(srn zs zs.length k).length<1048576:=by omega
        have F:¬((k+m:Nat):Int) <(zs.length:Int):=by omega
        generalize E0:k+m=B at *;clear g d;go_wp2;go_quiet (fail);go_wp2_with (first | (at_builtin;refine dW rfl _ _ rfl _ _ _ (E.out _) rfl rfl D I ?_;intro S w1 s A O) | go_in);rw[<-C.out]at s;go_roundw
        case rel=>exact⟨k+1,by omega,by go_num,s,(below_drewN x _).trans A⟩
        case measure=>simp[intOf];omega
  ·have SM:k=zs.length:=by omega
   subst SM;rw[aMJ]at t;clear Q R;go_wp2;go_ret;exact⟨_,rfl,t,x⟩
def nA(zs:List Int)(fr:List (Blk n)):List Int:=fr.foldl (fun l x=>l.set x.1 1) zs
theorem vV(zs:List Int)(a:List (Blk n))(x:Blk n):nA zs (a++[x])=(nA zs a).set x.1 1:=by simp[nA]
theorem qE(zs:List Int)(a:List (Blk n)):(nA zs a).length=zs.length:=by
 induction a generalizing zs with
 | nil=>rfl
 | cons x l ih=>simp only[nA,List.foldl_cons]at ih |-;rw[ih];simp
def rnO(zs:List Int)(fr:List (Blk n)):List (Int×Int×Int):=rns (nA zs fr) zs.length
def good(zs:List Int)(fr:List (Blk n)):Bool:=decide ((rnO zs fr).length<=20*fr.length)
theorem tR(zs:List Int)(a:List (Blk n)):(rnO zs a).length<=zs.length:=tS _ _
def lK(zs ys:List Int):Option Nat:=(List.range (frs zs ys zs.length zs.length).length).find? fun j=>good zs ((frs zs ys zs.length zs.length).take (j+1))
theorem tG(h:∀j,j <(frs zs ys zs.length zs.length).length->good zs ((frs zs ys zs.length zs.length).take (j+1))=false):lK zs ys=none:=
 List.find?_range_eq_none.2 fun i a=>by rw[h i a];rfl
theorem tI(c:j <(frs zs ys zs.length zs.length).length)(a:good zs ((frs zs ys zs.length zs.length).take (j+1))=true)(h:∀i,i<j->good zs ((frs zs ys zs.length zs.length).take (i+1))=false):lK zs ys=some j:=
 List.find?_range_eq_some.2 ⟨a,List.mem_range.2 c,fun i b=>by rw[h i b];rfl⟩
def plF(zs ys:List Int):List (Blk zs.length):=if chk [zs,ys]=0 then(match lK zs ys with
 | none=>[]
 | some j=>(frs zs ys zs.length zs.length).take (j+1))else []
def plP(zs ys:List Int):List Int:=(plF zs ys).map fun x=>(x.1:Int)
def plR(zs ys:List Int):List (Int×Int×Int):=if chk [zs,ys]=0 then(match lK zs ys with
 | none=>[]
 | some j=>rnO zs ((frs zs ys zs.length zs.length).take (j+1)))else []
def plC(zs ys:List Int):Int:=if chk [zs,ys]=0 then(match lK zs ys with
 | none=>7
 | some _=>0)else chk [zs,ys]
theorem aON(h:chk [zs,ys]≠0):plP zs ys=[]/\plR zs ys=[]/\plC zs ys=chk [zs,ys]:=by
 simp[plP,plF,plR,plC,h]
theorem xN(h:chk [zs,ys]=0)(a:lK zs ys=none):plP zs ys=[]/\plR zs ys=[]/\plC zs ys=7:=by
 simp[plP,plF,plR,plC,h,a]
theorem xO(h:chk [zs,ys]=0)(a:lK zs ys=some j):plP zs ys=((frs zs ys zs.length zs.length).take (j+1)).map (fun x=>(x.1:Int))/\plR zs ys=rnO zs ((frs zs ys zs.length zs.length).take (j+1))/\plC zs ys=0:=by
 simp[plP,plF,plR,plC,h,a]
theorem tF(zs ys:List Int):(plP zs ys).length<=512:=by
 by_cases h:chk [zs,ys]=0
 ·have c:=(aBL (mP h).2.1).1
  have b:=jZ zs ys zs.length zs.length;cases a:lK zs ys with
  | none=>rw[(xN h a).1];simp
  | some j=>rw[(xO h a).1];simp;omega
 ·rw[(aON h).1];simp
theorem pU(C:o.guard=none)(s x:Operand)
  (y:o.op=.call {callee:=.builtin .append,args:=#[s,x],argTypes:=#[29,29]})
  {base:Nat} {v:Value} {zs ys:List Int} (d:dJ base w v zs) {ad:Addr} {n c:Nat} (hn:ys.length=n) (eS:∀i,i<n->w.cell? (ad.add i)=some (.int .i64 (ys.getD i 0))) (A:a.eval s=v) (hx:a.eval x=.slice (some ad) n c)
  (F:zs.length+n<8589934592) (e:base<=w.heap.size)
  (h:∀v' w',dJ base w' v' (zs++ys)->Below base w w'->wpList Tryz.prog ops Q rest (a.put o.dst v') w'):
  wpList Tryz.prog ops Q (o :: rest) a w:=by
 obtain⟨B,r,E,D,l⟩:=info_parts sM;refine wpList_append_own _ C s x 29 y base 2 B (.int .i64 0) 1 8 Tryz.underlying29 r E D l rfl (by decide) v _ _ A d ad n c (ys.map (Value.int .i64)) hx (by simp[hn]) ?_ ?_ ?_ ?_ e ?_
 ·intro j u b
  have g:j<ys.length:=by
   by_cases q:j<ys.length
   ·exact q
   ·simp[show ys.length<=j by omega]at b
  rw[eS j (by omega)];simp only[List.getElem?_map,gE g,Option.map_some,sJ]at b;rw[<-b];simp[g]
 ·intro u f
  simp only[List.mem_map]at f;obtain⟨z,_,rfl⟩:=f;rfl
 ·unfold maxLen;omega
 ·omega
 ·intro v' w' m p _
  refine h v' w' ?_ ((bQ base w).grown p e (fun k t=>(d.lt k t).1));unfold dJ;simpa [hn] using m
theorem Addr.di(b off i:Nat):(({block:=b,off:=off,spot:=none}:Addr).add i)=⟨b,off+i,none⟩:=by
 unfold Addr.add;by_cases a:i=0<;>simp[a]
theorem pX(a:Option Addr)(c:Nat)(zs:List Int)(w:World)(o:0<zs.length)(hn:zs.length<=1048576)(k:Nts w (.slice a zs.length c) zs):
  Calls Tryz.prog 131 #[.slice a zs.length c] w fun e w'=>∃u,e=.returned u/\dJ w.heap.size w' u zs/\Bl w w':=by
 obtain⟨_,_,g,j⟩:=k.shape;simp only[Value.slice.injEq,true_and]at g;obtain⟨rfl,rfl⟩:=g;obtain⟨b,off,rfl,f⟩:=j o;have r:=fun w=>Lib.run_eql_slice_nil (P:=Tryz.prog) w 29 2 (some ⟨b,off,none⟩) zs.length c 0 0 Tryz.underlying29;have p:=dJ.lit w.heap.size w (nR _) w.heap.size rfl;have eS:∀i,i<zs.length->(w.alloc (.cells #[] 2)).cell? ((⟨b,off,none⟩:Addr).add i)=some (.int .i64 (zs.getD i 0)):=fun i s=>by
  rw[Addr.di,World.cell?_alloc_past _ _ _ (World.block_lt_of_cell? _ _ (f i (by omega)))];exact f i (by omega)
 have q:=iQ w (.cells #[] 2);have l:Hid (∀(d:Value) (w':World),dJ w.heap.size w' d ([]++zs)->dJ w.heap.size w' d zs):=fun _ _ h=>h;clear j f k;go_enter Tryz.func131,Tryz.ntmps131;go_wp2_with (at_builtin;refine pU rfl _ _ rfl p rfl eS rfl rfl (by simp;omega) (by simp) ?_;intro d w1 m n);go_ret;exact⟨d,rfl,l.out _ _ m,q.trans n⟩
end Go.Proofs.YtmpagpeenjddgaaGreat
namespace Go.Proofs.YtmpagpeenjddgaaGreat
open Go.RowKit Go.Shelf
variable{zs:List Int}{xs:List Value}{cap g k s size:Nat}{tmp:Obj}{e:TypeId}{cs ct v v':Value}{W W' w w1:World}
theorem cD{B:Nat}{t:TypeId}(h:Boxed W B t v)(k:Bl W W'):Boxed W' B t v:=(k.block B h.lt).trans h
theorem aGA{β:Type}(u e:Nat)(v:Value)(f:β->List Int):Own (fun s W=>bH u e W v (f s)):=by
 rintro s X Y w h d j;obtain⟨a,c,t,q⟩:=h.shape;refine⟨h.small,a,c,t,fun r=>?_⟩;obtain⟨b,off,p,m,n,o,k⟩:=q r;refine⟨b,off,p,m,n,lL o d.size,fun i e=>?_⟩;obtain⟨g,l⟩:=k i e;exact⟨cell_kept g d j,(frozen_kept g d j).trans l⟩
structure PlS(w:World)(s g cap:Nat)(cs ct:Value)(zs:List Int)(pre:List (Blk zs.length))(v:Value)(W:World):Prop where
 da:Boxed W (s+1) 29 v
 row:W.ownsRow s 2 1 v pre.length (pre.map fun x=>Value.int .i64 (x.1:Int))
 b6:Boxed W s 29 (.slice (some ⟨g,0,none⟩) zs.length cap)
 ei:bH g (g+1) W (.slice (some ⟨g,0,none⟩) zs.length cap) (nA zs pre)
 r0:Boxed W w.heap.size 29 (.slice none 0 0)
 r1:Boxed W (w.heap.size+1) 81 (.slice none 0 0)
 r2:Boxed W (w.heap.size+1+1) 2 (.int .i64 0)
 bs:Boxed W (s+1+1) 29 cs
 bt:Boxed W (s+1+1+1) 29 ct
 bb:Bl w W
theorem aMA(k:w.heap.size<=s):OwnFrom s (fun(pre:List (Blk zs.length)) W=>∃v,PlS w s g cap cs ct zs pre v W):=by
 rintro pre X Y a ⟨v,h⟩ b d;have c:∀r,a=some r->∃o:Obj,X.heap[r]?=some o/\o.isCells=false:=fun r e=>(d r e).2;obtain⟨l,f,i,j⟩:=holdsRow_own (β:=Unit) s (s+1) 29 2 1 (fun _=>pre.length) (fun _=>pre.map fun x=>Value.int .i64 (x.1:Int)) (fun _ u=>u=v) () X Y a ⟨v,h.da,h.row,rfl⟩ b c;subst j;exact⟨l,f,i,boxed_own (β:=Unit) _ _ (fun _=>_) () X Y a h.b6 b c,aGA (β:=Unit) _ _ _ (fun _=>nA zs pre) () X Y a h.ei b c,boxed_own (β:=Unit) _ _ (fun _=>_) () X Y a h.r0 b c,boxed_own (β:=Unit) _ _ (fun _=>_) () X Y a h.r1 b c,boxed_own (β:=Unit) _ _ (fun _=>_) () X Y a h.r2 b c,boxed_own (β:=Unit) _ _ (fun _=>_) () X Y a h.bs b c,boxed_own (β:=Unit) _ _ (fun _=>_) () X Y a h.bt b c,ownFrom_below (β:=Unit) (nR _) k () X Y a h.bb b d⟩
theorem PlS.appended{pre:List (Blk zs.length)}{x:Blk zs.length}(h:PlS w s g cap cs ct zs pre v W)(A:w.heap.size+3<s)(z:g<s)(q:w.heap.size+3<g)
  (j:w1.ownsRow s 2 1 v' (pre.length+1) ((pre.map fun x=>Value.int .i64 (x.1:Int))++[.int .i64 (x.1:Int)])) (f:(W.alloc tmp).grownBy w1 v.ownBlock):
  Boxed w1 (s+1) 29 v/\Boxed (w1.setCell ⟨s+1,0,none⟩ v') (s+1) 29 v'/\(w1.setCell ⟨s+1,0,none⟩ v').ownsRow s 2 1 v' (pre++[x]).length ((pre++[x]).map fun x=>Value.int .i64 (x.1:Int))/\
  Boxed (w1.setCell ⟨s+1,0,none⟩ v') s 29 (.slice (some ⟨g,0,none⟩) zs.length cap)/\bH g (g+1) (w1.setCell ⟨s+1,0,none⟩ v') (.slice (some ⟨g,0,none⟩) zs.length cap) (nA zs pre)/\
  Boxed (w1.setCell ⟨s+1,0,none⟩ v') w.heap.size 29 (.slice none 0 0)/\Boxed (w1.setCell ⟨s+1,0,none⟩ v') (w.heap.size+1) 81 (.slice none 0 0)/\Boxed (w1.setCell ⟨s+1,0,none⟩ v') (w.heap.size+1+1) 2 (.int .i64 0)/\
  Boxed (w1.setCell ⟨s+1,0,none⟩ v') (s+1+1) 29 cs/\Boxed (w1.setCell ⟨s+1,0,none⟩ v') (s+1+1+1) 29 ct/\Below s W (w1.setCell ⟨s+1,0,none⟩ v')/\KeepsOthers W (w1.setCell ⟨s+1,0,none⟩ v'):=by
 have i:s<=W.heap.size:=by have:=h.b6.lt;omega
 obtain⟨l,m,n,o,a⟩:=h.da.appended (by decide) h.row i (by omega) j f;have e:∀{B:Nat} {u:Value},Boxed W B 29 u->B≠s+1->Boxed (w1.setCell ⟨s+1,0,none⟩ v') B 29 u:=fun c k=>((c.alloc tmp).kept f (c.not_row (by decide) h.row)).other k _;have d:∀{B:Nat} {t:TypeId} {u:Value},Boxed W B t u->B<s->Boxed (w1.setCell ⟨s+1,0,none⟩ v') B t u:=fun c p=>(a.block _ p).trans c;exact⟨l,m,by simpa using n,e h.b6 (by omega),h.ei.kept a.size fun b r y _=>a.block b (by omega),d h.r0 (by omega),d h.r1 (by omega),d h.r2 (by omega),e h.bs (by omega),e h.bt (by omega),a,o⟩
theorem PlS.el{pre:List (Blk zs.length)}(x:Blk zs.length)(h:PlS w s g cap cs ct zs pre v W)(u:g<s)(c:(W.alloc tmp).grownBy w1 v.ownBlock):
  w1.cell? ⟨s,0,none⟩=some (.slice (some ⟨g,0,none⟩) zs.length cap)/\w1.cell? ⟨g,x.1,none⟩=some (.int .i64 ((nA zs pre).getD x.1 0))/\w1.frozen? ⟨g,x.1,none⟩=false:=by
 have k:Boxed w1 s 29 (.slice (some ⟨g,0,none⟩) zs.length cap):=(h.b6.alloc tmp).kept c (h.b6.not_row (by decide) h.row);have j:w1.heap[g]?=W.heap[g]?:=by
  have i:g<W.heap.size:=by have:=h.b6.lt;omega
  rw[c.block g (by simp;omega) (fun e=>?_)]
  ·exact Below.heap_alloc W tmp g i
  ·rcases h.row.2 with⟨rfl,_⟩ | ⟨p,_,_,rfl,t,_⟩
   ·simp[Value.ownBlock]at e
   ·simp[Value.ownBlock]at e;omega
 have o:∀b,g<=b->b<g+1->b<W.heap.size->w1.heap[b]?=W.heap[b]?:=fun b q r _=>by rw[show b=g by omega];exact j
 have l:=h.ei.kept (w':=w1) (by have:=c.size;simp at this;omega) o;obtain⟨_,_,a,n⟩:=l.shape;simp only[Value.slice.injEq]at a;obtain⟨rfl,z,rfl⟩:=a;have y:=x.2.2;obtain⟨_,_,a,_,_,_,m⟩:=n (by omega);simp only[sJ,Addr.mk.injEq,and_true]at a;obtain⟨rfl,rfl⟩:=a;obtain⟨d,f⟩:=m x.1 (by omega);rw[Nat.zero_add]at d f;exact⟨k.cell,d,f⟩
theorem oF(h:Bl W W'):KeepsOthers W W':=⟨h.size,fun k o a _=>(h.block k (Array.getElem?_eq_some_iff.1 a).1).trans a⟩
theorem aGB{pre:List (Blk zs.length)}(h:PlS w s g cap cs ct zs pre v W)(k:Bl W W'):PlS w s g cap cs ct zs pre v W':=
 ⟨cD h.da k,by
  rcases h.row.2 with e | ⟨b,c,cu,i,d,a,f⟩
  ·exact⟨h.row.1,.inl e⟩
  ·exact⟨h.row.1,.inr ⟨b,c,cu,i,d,(k.block b (Array.getElem?_eq_some_iff.1 a).1).trans a,f⟩⟩,cD h.b6 k,h.ei.below k,cD h.r0 k,cD h.r1 k,cD h.r2 k,cD h.bs k,cD h.bt k,h.bb.trans (k.mono h.bb.size)⟩
theorem PlS.next{pre:List (Blk zs.length)}{x:Blk zs.length}(h:PlS w s g cap cs ct zs pre v W)(C:w.heap.size+3<s)(A:g<s)(l:w.heap.size+3<g)
  (m:w1.ownsRow s 2 1 v' (pre.length+1) ((pre.map fun x=>Value.int .i64 (x.1:Int))++[.int .i64 (x.1:Int)])) (F:(W.alloc tmp).grownBy w1 v.ownBlock):
  PlS w s g cap cs ct zs (pre++[x]) v' ((w1.setCell ⟨s+1,0,none⟩ v').setCell ⟨g,x.1,none⟩ (.int .i64 1))/\KeepsOthers W ((w1.setCell ⟨s+1,0,none⟩ v').setCell ⟨g,x.1,none⟩ (.int .i64 1))/\
   Below w.heap.size W ((w1.setCell ⟨s+1,0,none⟩ v').setCell ⟨g,x.1,none⟩ (.int .i64 1)):=by
 obtain⟨N,G,f,H,I,J,K,L,M,b,c,d⟩:=h.appended C A l m F;have E:=x.2.2;have k:=I.stored x.1 E 1 (by omega);rw[Nat.zero_add,<-vV]at k;have a:∀{B:Nat} {t:TypeId} {u:Value},Boxed (w1.setCell ⟨s+1,0,none⟩ v') B t u->B≠g->Boxed ((w1.setCell ⟨s+1,0,none⟩ v').setCell ⟨g,x.1,none⟩ (.int .i64 1)) B t u:=fun z n=>(Below.heap_setCell _ _ _ _ n).trans z;have j:Below w.heap.size W ((w1.setCell ⟨s+1,0,none⟩ v').setCell ⟨g,x.1,none⟩ (.int .i64 1)):=(c.mono (by omega)).setCell (p:=⟨g,x.1,none⟩) (by show w.heap.size<=g;omega) _;refine⟨⟨a G (by omega),?_,a H (by omega),k.1,a J (by omega),a K (by omega),a L (by omega),a M (by omega),a b (by omega),h.bb.trans j⟩,d.trans (KeepsOthers.setCell _ _ _),j⟩;rcases f.2 with e | ⟨i,o,cu,D,q,r,y⟩
 ·exact⟨f.1,.inl e⟩
 ·exact⟨f.1,.inr ⟨i,o,cu,D,q,(Below.heap_setCell _ _ _ _ (by show i≠g;omega)).trans r,y⟩⟩
theorem PlS.kp{pre pre':List (Blk zs.length)}(h:PlS w s g cap cs ct zs pre v W)(a:PlS w s g cap cs ct zs pre' v' W')(b:Below w.heap.size W W'):KpF w.heap.size (s+1+1) (s+1+1+1) W W':=
 ⟨b,a.bs.trans h.bs.symm,a.bt.trans h.bt.symm⟩
def PlE(w:World)(s:Nat)(zs:List Int)(pre:List (Blk zs.length))(W:World):Prop:=
 ∃p q,Boxed W w.heap.size 29 p/\Boxed W (w.heap.size+1) 81 q/\Boxed W (w.heap.size+1+1) 2 (.int .i64 0)/\W.ownsRow s 2 1 p pre.length (pre.map fun x=>Value.int .i64 (x.1:Int))/\W.ownsRow s 156 3 q (rnO zs pre).length (eY (rnO zs pre))/\Bl w W
theorem fC(h:W.ownsRow s e size v k xs){p:Addr}(i:p.block<s)(u:Value):(W.setCell p u).ownsRow s e size v k xs:=by
 rcases h.2 with e | ⟨f,a,cu,g,b,c,d⟩
 ·exact⟨h.1,.inl e⟩
 ·exact⟨h.1,.inr ⟨f,a,cu,g,b,(Below.heap_setCell _ _ _ _ (by omega)).trans c,d⟩⟩
theorem tU{s':Nat}(h:W.ownsRow s e size v k xs)(g:s'<=s):W.ownsRow s' e size v k xs:=by
 rcases h.2 with e | ⟨c,a,cu,d,f,b⟩
 ·exact⟨h.1,.inl e⟩
 ·exact⟨h.1,.inr ⟨c,a,cu,d,by omega,b⟩⟩
theorem PlS.ends{base:Nat}{pre:List (Blk zs.length)}{q:Value}(h:PlS w s g cap cs ct zs pre v W)(c:w.heap.size+3<s)(b:fG base W q (rnO zs pre))(a:s<=base):
  PlE w s zs pre (((W.setCell ⟨w.heap.size,0,none⟩ v).setCell ⟨w.heap.size+1,0,none⟩ q).setCell ⟨w.heap.size+1+1,0,none⟩ (.int .i64 0)):=by
 have r1:Boxed (W.setCell ⟨w.heap.size,0,none⟩ v) (w.heap.size+1) 81 (.slice none 0 0):=h.r1.other (by omega) _;have r2:Boxed ((W.setCell ⟨w.heap.size,0,none⟩ v).setCell ⟨w.heap.size+1,0,none⟩ q) (w.heap.size+1+1) 2 (.int .i64 0):=(h.r2.other (by omega) _).other (by omega) _;refine⟨v,q,((h.r0.set v).other (by omega) _).other (by omega) _,(r1.set q).other (by omega) _,r2.set _,?_,?_,?_⟩
 ·exact fC (fC (fC h.row (by show w.heap.size<s;omega) _) (by show w.heap.size+1<s;omega) _) (by show w.heap.size+1+1<s;omega) _
 ·exact fC (fC (fC (tU b a) (by show w.heap.size<s;omega) _) (by show w.heap.size+1<s;omega) _) (by show w.heap.size+1+1<s;omega) _
 ·exact((h.bb.setCell (p:=⟨w.heap.size,0,none⟩) (nR _) _).setCell (p:=⟨w.heap.size+1,0,none⟩) (by show w.heap.size<=w.heap.size+1;omega) _).setCell (p:=⟨w.heap.size+1+1,0,none⟩) (by show w.heap.size<=w.heap.size+1+1;omega) _
theorem aLZ(z:w.heap.size<=s):OwnFrom s (fun(pre:List (Blk zs.length)) W=>PlE w s zs pre W):=by
 rintro pre X Y a ⟨p,q,l,m,n,t,v,y⟩ b d;have c:∀r,a=some r->∃o:Obj,X.heap[r]?=some o/\o.isCells=false:=fun r e=>(d r e).2;obtain⟨A,f,g,h⟩:=holdsRow_own (β:=Unit) s w.heap.size 29 2 1 (fun _=>pre.length) (fun _=>pre.map fun x=>Value.int .i64 (x.1:Int)) (fun _ u=>u=p) () X Y a ⟨p,l,t,rfl⟩ b c;subst h;obtain⟨B,i,j,k⟩:=holdsRow_own (β:=Unit) s (w.heap.size+1) 81 156 3 (fun _=>(rnO zs pre).length) (fun _=>eY (rnO zs pre)) (fun _ u=>u=q) () X Y a ⟨q,m,v,rfl⟩ b c;subst k;exact⟨A,B,f,i,boxed_own (β:=Unit) _ _ (fun _=>_) () X Y a n b c,g,j,ownFrom_below (β:=Unit) (nR _) z () X Y a y b d⟩
theorem aFK{n:Nat}{pre:List (Blk n)}{x:Blk n}(h:∀j,j<pre.length->good zs (pre.take (j+1))=false)(hx:good zs (pre++[x])=false):∀j,j <(pre++[x]).length->good zs ((pre++[x]).take (j+1))=false:=fun j a=>by
 by_cases e:j<pre.length
 ·rw[List.take_append_of_le_length (by omega)];exact h j e
 ·rw[List.take_of_length_le (by simp at a |-;omega)];exact hx
