import Derived.Lib.SliceRun
import Derived.RangeFuncBox
import Derived.Maps.AppendAt
import Derived.Test.YtmpagpeenjddgaaGreatInv
set_option maxHeartbeats 9999999
set_option maxRecDepth 99999
set_option linter.all false
namespace Go.Proofs.YtmpagpeenjddgaaGreat
open Go.RowKit Go.Shelf
attribute [local go_sem] Oper.semAt_some
theorem jH(F:Fence)(n:Nat)(d:F.fn 113)(b:F.round=none)(x y:Value)(w:World)(hx:∃a l c,x=.slice a l c)(hy:∃a l c,y=.slice a l c):
  CallsIn F n Tryz.prog 113 #[x,y] w fun e w'=>e=.returned (.func (.func 133) #[] #[pT w.heap.size 0,pT (w.heap.size+1) 0])/\w'=(w.alloc (.cells #[x] 29)).alloc (.cells #[y] 29):=by
 obtain⟨a,l,c,rfl⟩:=hx;obtain⟨f,h,g,rfl⟩:=hy;refine callsIn_of_wp Tryz.func113 rfl d ?_ b;simp only[Tryz.ntmps113,List.size_toArray,List.length_cons,List.length_nil,Nat.reduceAdd,Nat.reduceSub,Array.replicate_succ,Array.replicate_zero,List.push_toArray,List.append_toArray,List.nil_append,List.cons_append];gi_wp2;go_ret;exact⟨rfl,rfl⟩
theorem mU(F:Fence)(n:Nat)(K:F.fn 133)(E:F.round=none)(hn:1<=n)(Bs Bt f:Nat)(a q:Option Addr)(c h:Nat)(zs ys:List Int)(L:ys.length=zs.length)(N:zs.length<=512)(u:8<=zs.length)(w:World)(B:Bs<w.heap.size)(C:Bt<w.heap.size)(_hn₀:f<=w.heap.size)
  (hc:w.cell? (aD Bs 0)=some (.slice a zs.length c)) (D:w.cell? (aD Bt 0)=some (.slice q ys.length h)) (w0:World) (G:Nts w0 (.slice a zs.length c) zs) (A:Nts w0 (.slice q ys.length h) ys) (P:w0.heap.size<=f) (s:Bl w0 w):
  SeqStopsK F n Tryz.prog 133 #[pT Bs 0,pT Bt 0] (fun x:Blk zs.length=>#[iV (x.1:Int)]) (KpF f Bs Bt) (fun xs=>xs=frs zs ys zs.length zs.length) (fun pre=>∃k,k<=zs.length/\pre=frs zs ys zs.length k) zs.length w:=fun l J v W i _ _ H y=>by
 obtain⟨_,_,e,M⟩:=G.shape;simp only[Value.slice.injEq,true_and]at e;obtain⟨rfl,rfl⟩:=e;obtain⟨b,off,rfl,r⟩:=M (by omega);obtain⟨_,_,e,z⟩:=A.shape;simp only[Value.slice.injEq,true_and]at e;obtain⟨rfl,rfl⟩:=e;obtain⟨g,d,rfl,t⟩:=z (by omega);have I:b<w0.heap.size:=World.block_lt_of_cell? _ _ (r 0 (by omega));have O:g<w0.heap.size:=World.block_lt_of_cell? _ _ (t 0 (by omega));have o:=s.trans (i.mono s.size);exact aIU F n K E hn l Bs Bt f b off g d c h zs ys L N u (by omega) (by omega) J v H W ((i.cell (p:=aD Bs 0) B).trans hc) ((i.cell (p:=aD Bt 0) C).trans D)
  (fun j m=>(o.cell (p:=aD b (off+j)) I).trans (r j m)) (fun j m=>(o.cell (p:=aD g (d+j)) O).trans (t j m)) y
def low(zs ys:List Int):Int:=match frs zs ys zs.length zs.length with
 | []=>0
 | x :: _=>(x.1:Int)
theorem uW(F:Fence)(n:Nat)(h1:F.fn 134)(h2:F.fn 113)(h3:F.fn 133)(m:F.round=none)(hn:3<=n)(a d:Option Addr)(c f:Nat)(zs ys:List Int)(J:ys.length=zs.length)(V:zs.length<=512)(N:8<=zs.length)(w:World)(U:Nts w (.slice a zs.length c) zs)(Y:Nts w (.slice d ys.length f) ys):
  CallsIn F n Tryz.prog 134 #[.slice a zs.length c,.slice d ys.length f] w fun e W'=>e=.returned (iV (low zs ys))/\Bl w W':=by
 have Z:1<=n:=by omega
 have O:Hid (ys.length=zs.length):=J;clear J;refine callsIn_of_wp_marks Tryz.func134 rfl h1 ?_ m;simp only[Tryz.ntmps134,List.size_toArray,List.length_cons,List.length_nil,Nat.reduceAdd,Nat.reduceSub,Array.replicate_succ,Array.replicate_zero,List.push_toArray,List.append_toArray,List.nil_append,List.cons_append];gi_wp2_with (gi_at_call 113;refine(jH F (n-1) h2 m _ _ _ ⟨_,_,_,rfl⟩ ⟨_,_,_,rfl⟩).mono ?_;rintro e w' ⟨rfl,rfl⟩);have E:=Boxed.new w 2 (iV 0);have G:=Boxed.new (w.alloc (.cells #[iV 0] 2)) 29 (.slice a zs.length c);have H:=Boxed.new ((w.alloc (.cells #[iV 0] 2)).alloc (.cells #[.slice a zs.length c] 29)) 29 (.slice d ys.length f);simp only[World.size_alloc]at G H;have I:Bl w (((w.alloc (.cells #[iV 0] 2)).alloc (.cells #[.slice a zs.length c] 29)).alloc (.cells #[.slice d ys.length f] 29)):=(((bQ _ w).alloc (nR _) _).alloc (by simp) _).alloc (by simp;omega) _;refine wpIn_rangeFunc_ownF m Z (gf:=133) (lb:=#[pT (w.heap.size+1) 0,pT (w.heap.size+1+1) 0]) rfl h3 (enters_of Tryz.func133 (by kernel_rfl) rfl)
  (mU F (n-1) h3 m (by omega) (w.heap.size+1) (w.heap.size+1+1) w.heap.size a d c f zs ys O.out V N _ (by simp) (by simp) (by simp;omega) ((G.alloc _).cell) H.cell w U Y (by omega) I) KpF.trans (KpF.put (by simp;omega) (by simp) (by simp)) (bQ _ _) (fun _=>rfl)
  (fun b W=>(b=[]/\W.cell? (aD w.heap.size 0)=some (iV 0)/\W.frozen? (aD w.heap.size 0)=false)/\Bl w W)
  (fun k b W=>(k=.ret/\∃x,b=[x]/\W.cell? (aD w.heap.size 0)=some (iV (x.1:Int)))/\Bl w W)
  (OwnFrom.and (Own.from (fun s A B C h o u=>⟨h.1,cell_kept h.2.1 o u,(frozen_kept h.2.1 o u).trans h.2.2⟩) _) (ownFrom_below (nR _) (by simp;omega)))
  (fun k=>OwnFrom.and (Own.from (fun s A B C h o u=>by obtain⟨P,x,Q,R⟩:=h;exact⟨P,x,Q,cell_kept R o u⟩) _) (ownFrom_below (nR _) (by simp;omega)))
  ⟨⟨rfl,((E.alloc _).alloc _).cell,((E.alloc _).alloc _).frozen⟩,I⟩
  (fun x=>{tmps:=#[.slice a zs.length c,.slice d ys.length f,undef,undef,pT w.heap.size 0,iV (x.1:Int),.slice a zs.length c,.slice d ys.length f,.func (.func 133) #[] #[pT (w.heap.size+1) 0,pT (w.heap.size+1+1) 0],iV (x.1:Int),undef],defers:=[]}) ?assign ?body ?done ?stop
 case assign=>
  intro l x W K g;gi_wp2;exact g
 case body=>
  rintro l b x W ⟨⟨rfl,j,S⟩,i⟩ _;gi_wp2;exact⟨KeepsOthers.setCell _ _ _,⟨rfl,x,rfl,World.cell?_setCell_same' _ _ _ (by rw[j];rfl)⟩,i.setCell (p:=aD w.heap.size 0) (nR _) _⟩
 case done=>
  rintro D xs W z rfl ⟨⟨M,j,S⟩,i⟩ g;gi_wp2;have y:=(KeepsOthers.setCell W ⟨w.heap.size,0,none⟩ (iV 0)).same D _ g rfl;refine⟨by simp,.inl ⟨_,_,rfl,run_takeDeferred y,?_⟩⟩;have v:=cell_kept (World.cell?_setCell_same' W ⟨w.heap.size,0,none⟩ (iV 0) (by rw[j];rfl)) (grownBy_putObj' _ D (.deferred none)) (fun r e=>by cases e;exact⟨_,y,rfl⟩);refine⟨iV 0,?_,by unfold low;rw[M],(i.setCell (p:=aD w.heap.size 0) (nR _) _).trans (belowK_b (w:=w) (nR _) _ D _ _ (by simp at z;omega) y rfl rfl)⟩;simp[results,Tryz.f134,go_sem,v]
 case stop=>
  rintro D k b W z ⟨q,T,X⟩ ⟨⟨rfl,x,rfl,j⟩,i⟩ g;gi_wp2;refine⟨by simp,.inl ⟨_,_,rfl,run_takeDeferred g,?_⟩⟩;have v:=cell_kept j (grownBy_putObj' _ D (.deferred none)) (fun r e=>by cases e;exact⟨_,g,rfl⟩);have L:low zs ys=(x.1:Int):=by
   obtain⟨t,ht⟩:=sM zs ys zs.length T;unfold low;rw[<-ht,<-X];rfl
  refine⟨iV (x.1:Int),?_,by rw[L],i.trans (belowK_b (w:=w) (nR _) W D _ _ (by simp at z;omega) g rfl rfl)⟩;simp[results,Tryz.f134,go_sem,v]
theorem sY(a b:Option Addr)(c d:Nat)(zs ys:List Int)(g:ys.length=zs.length)(i:zs.length<=512)(f:8<=zs.length)(w:World)(h:Nts w (.slice a zs.length c) zs)(j:Nts w (.slice b ys.length d) ys):
  Calls Tryz.prog 134 #[.slice a zs.length c,.slice b ys.length d] w fun e W'=>e=.returned (iV (low zs ys))/\Bl w W':=
 (callsIn_wide (n:=3)).1 (uW Fence.wide 3 trivial trivial trivial rfl (nR _) a b c d zs ys g i f w h j)
end Go.Proofs.YtmpagpeenjddgaaGreat
namespace Go.Proofs.YtmpagpeenjddgaaGreat
open Go.RowKit
def frI(zs ys:List Int)(n k:Nat):List Int:=(frs zs ys n k).map fun x=>(x.1:Int)
theorem sI(zs ys:List Int)(n k:Nat):(frI zs ys n k).length<=k:=by
 simp only[frI,List.length_map];exact jV zs ys n k
theorem aFL(zs ys:List Int)(n k i:Nat)(hn:n<=1048576):-9223372036854775808<=(frI zs ys n k).getD i 0/\(frI zs ys n k).getD i 0<=9223372036854775807:=by
 by_cases a:i <(frs zs ys n k).length
 ·have:=(frs zs ys n k)[i].2
  simp only[frI,gD,List.getElem?_map,gE a,Option.map_some,Option.getD_some];omega
 ·simp[frI,List.getElem?_eq_none (Nat.le_of_not_lt a)]
theorem sT(a z:Option Addr)(c B:Nat)(zs ys:List Int)(w:World)(E:Nts w (.slice a zs.length c) zs)(F:Nts w (.slice z ys.length B) ys)(C:ys.length=zs.length)(W:zs.length<=512)(P:8<=zs.length):
  Calls Tryz.prog 65 #[.slice a zs.length c,.slice z ys.length B] w fun e w'=>∃u,e=.returned u/\dJ w.heap.size w' u (frI zs ys zs.length zs.length)/\Bl w w':=by
 obtain⟨_,_,j,D⟩:=E.shape;simp only[Value.slice.injEq,true_and]at j;obtain⟨rfl,rfl⟩:=j;obtain⟨b,off,rfl,l⟩:=D (by omega);obtain⟨_,_,j,v⟩:=F.shape;simp only[Value.slice.injEq,true_and]at j;obtain⟨rfl,rfl⟩:=j;obtain⟨q,d,rfl,m⟩:=v (by omega);have M:b<w.heap.size:=World.block_lt_of_cell? _ _ (l 0 (by omega));have I:q<w.heap.size:=World.block_lt_of_cell? _ _ (m 0 (by omega));have t:Hid (ys.length=zs.length):=C;clear C D v E F;go_enter Tryz.func65,Tryz.ntmps65;go_wp2;go_loopw [5,6] (fun u i wr=>∃k:Nat,2<=k/\k<=zs.length/\i=iV k/\dJ w.heap.size wr u (frI zs ys zs.length k)/\Bl w wr) (fun _ i _=>zs.length -(intOf i).toNat)
 case atStart=>exact⟨2,nR _,by omega,rfl,dJ.lit _ _ (nR _) _ rfl,iO _ _⟩
 case round=>
  obtain⟨k,G,V,rfl,h,f⟩:=hrel;obtain⟨X,Y,H⟩:=h.shape;subst H;have J:=f.size;have O:(frI zs ys zs.length k).length<8589934592:=by have:=sI zs ys zs.length k;omega
  by_cases o:k<zs.length
  ·have S:wr.cell? (aD b (off+k))=some (iV (zs.getD k 0)):=(f.cell (p:=aD b (off+k)) M).trans (l k o)
   have T:wr.cell? (aD q (d+k))=some (iV (ys.getD k 0)):=(f.cell (p:=aD q (d+k)) I).trans (m k (by rw[t.out];exact o));have U:(k:Int) <(zs.length:Int):=by omega
   have hi':(k:Int) <(ys.length:Int):=by rw[t.out];omega
   have n:Hid (isF zs ys k=(zs.getD k 0 == 0 && ys.getD k 0 == 0)):=rfl;generalize zs.getD k 0=x at *;generalize ys.getD k 0=y at *;clear l m;by_cases r:x=0
   ·subst r
    by_cases s:y=0
    ·subst s
     have g:Hid (frI zs ys zs.length (k+1)=frI zs ys zs.length k++[(k:Int)]):=by
      unfold frI;rw[wV zs ys _ k ⟨G,o⟩ (by rw[n.out];rfl)];simp[Hid]
     go_wp2_with (first | (at_builtin;refine kN rfl _ _ rfl _ h rfl rfl O J ?_;intro Z w1 A K R Q) | go_in)
     rw[<-g.out]at A;go_roundw
     case rel=>exact⟨k+1,by omega,by omega,by go_num,A,f.trans K⟩
     case measure=>simp[intOf];omega
    ·have N:(y == 0)=false:=by simpa using s
     have g:Hid (frI zs ys zs.length (k+1)=frI zs ys zs.length k):=by
      unfold frI;rw[sK zs ys _ k fun e=>by have:=e.2.2;rw[n.out,N]at this;simp at this];rfl
     clear s;go_wp2;go_roundw
     case rel=>exact⟨k+1,by omega,by omega,by go_num,by rw[g.out];exact h,f⟩
     case measure=>simp[intOf];omega
   ·have L:(x == 0)=false:=by simpa using r
    have g:Hid (frI zs ys zs.length (k+1)=frI zs ys zs.length k):=by
     unfold frI;rw[sK zs ys _ k fun e=>by have:=e.2.2;rw[n.out,L]at this;simp at this];rfl
    clear r;go_wp2;go_roundw
    case rel=>exact⟨k+1,by omega,by omega,by go_num,by rw[g.out];exact h,f⟩
    case measure=>simp[intOf];omega
  ·obtain rfl:k=zs.length:=by omega
   clear l m;go_wp2;go_ret;exact⟨_,rfl,h,f⟩
section
variable {P : Program} {ops : Array Oper} {Q : Exit -> Act -> World -> Prop} {md : Region.Mode} {S : World -> Prop} {L : Nat}
def dep(md:Region.Mode)(ops:Array Oper):Nat->Nat->Nat->Bool
 | 0,_,_=>false
 | f+1,L,i=>((ops[L]?).map fun o=>o.after.toList.any fun e=>Region.binds md e && (e.on == i || dep md ops f e.on i)).getD false
def kR(md:Region.Mode)(ops:Array Oper)(listed:Array Bool):Prop:=
 ∀j o,ops[j]?=some o->listed.getD j true=true->∀e∈o.after,Region.binds md e=true->listed.getD e.on true=true
def wO(md:Region.Mode)(ops:Array Oper)(listed:Array Bool):Bool:=
 (List.range ops.size).all fun j=>!(listed.getD j true) || ((ops[j]?).map fun o=>o.after.toList.all fun e=>!(Region.binds md e) || listed.getD e.on true).getD true
theorem nM{listed:Array Bool}(h:wO md ops listed=true):kR md ops listed:=fun j o c g e f d=>by
 have a:=List.all_eq_true.1 h j (List.mem_range.2 (Array.getElem?_eq_some_iff.1 c).1);rw[c,g]at a;simp only[Bool.not_true,Bool.false_or,Option.map_some,Option.getD_some]at a;have b:=List.all_eq_true.1 a e (by simpa using f);rw[d]at b;simpa using b
theorem aDV{listed:Array Bool}{j k:Nat}(h:listed.getD k true=true):(listed.setIfInBounds j true).getD k true=true:=by
 simp only[Array.getD_eq_getD_getElem?,Array.getElem?_setIfInBounds]at *;split
 ·split<;>simp
 ·exact h
theorem qH{listed:Array Bool}{j:Nat}(h:j∈Region.ready md ops listed):∃o,ops[j]?=some o/\∀e∈o.after,Region.binds md e=true->listed.getD e.on true=true:=by
 obtain⟨_,o,f,a⟩:=mem_ready.1 h;refine⟨o,f,fun e d c=>?_⟩;have:=a e d c;simp only[Array.getD_eq_getD_getElem?]at this |-;cases g:listed[e.on]? with
 | none=>rfl
 | some b=>rw[g]at this;simpa using this
theorem kR.step{listed:Array Bool}{j:Nat}(h:kR md ops listed)(i:j∈Region.ready md ops listed):kR md ops (listed.setIfInBounds j true):=fun k o f l e d c=>by
 by_cases b:k=j
 ·subst b
  obtain⟨m,a,g⟩:=qH i;rw[f]at a;cases a;exact aDV (g e d c)
 ·refine aDV (h k o f ?_ e d c)
  rwa [getD_set_ne true (Ne.symm b)]at l
theorem rW{listed:Array Bool}(h:kR md ops listed){i:Nat}:∀(f L:Nat) (o:Oper),ops[L]?=some o->(∀e∈o.after,Region.binds md e=true->listed.getD e.on true=true)->dep md ops f L i=true->listed.getD i true=true
 | 0,_,_,_,_,a=>by simp[dep]at a
 | f+1,L,o,l,g,a=>by
  simp only[dep,l,Option.map_some,Option.getD_some,List.any_eq_true,Bool.and_eq_true,Bool.or_eq_true,beq_iff_eq]at a;obtain⟨e,k,j,a⟩:=a;have c:=g e (by simpa using k) j;rcases a with a | a
  ·rw[<-a];exact c
  ·cases b:ops[e.on]? with
   | none=>
    cases f with
    | zero=>simp[dep]at a
    | succ f=>simp[dep,b]at a
   | some d=>exact rW h f e.on d b (h e.on d b c) a
theorem vH{listed:Array Bool}(h:kR md ops listed){f i:Nat}(hd:dep md ops f L i=true)(e:i∈Region.ready md ops listed)(d:L∈Region.ready md ops listed):i=L:=by
 obtain⟨o,g,b⟩:=qH d;have c:=rW h f L o g b hd;have a:=(mem_ready.1 e).1;rw[c]at a;cases a
theorem aAZ{i fd:Nat}(I:dep md ops fd L i=true){oi:Oper}{v:Value}(s:ops[i]?=some oi)(A:∀(j:Nat) (o:Oper) cs b,ops[j]?=some o->o.op≠.select cs b)
  (N:∀c a w,Q (.panic c) (a.put oi.dst v) w->Q (.panic c) a w) (fuel:Nat):
  ∀(listed:Array Bool) (a:Act) (w:World),kR md ops listed->
   (∀j oj,ops[j]?=some oj->j≠i->listed.getD j true=false->(∀e∈oj.after,Region.binds md e=true->e.on≠i)->oi.apart ops oj=true)->
   i∈Region.ready md ops listed->YieldsIf P ops S oi v a->S w->
   eB P md ops Q S L fuel (listed.setIfInBounds i true) (a.put oi.dst v) w->eB P md ops Q S L (fuel+1) listed a w:=by
 induction fuel with
 | zero=>
  intro listed a w _ _ g q m H;refine⟨fun h=>by simp[h]at g,fun j f=>?_⟩;by_cases d:j=i
  ·subst d
   exact q.wpOp s m ⟨fun _=>m,H⟩
  ·have U:=ready_mono f d
   simp[H.1]at U
 | succ fuel ih=>
  intro listed a w u y g q m H;refine⟨fun h=>by simp[h]at g,fun j f=>?_⟩;by_cases d:j=i
  ·subst d
   exact q.wpOp s m ⟨fun _=>m,H⟩
  ·have E:j≠L:=fun e=>d (e.trans (vH u I g (e▸f)).symm)
   obtain⟨z,oj,r,G⟩:=mem_ready.1 f;have B:∀e∈oj.after,Region.binds md e=true->e.on≠i:=fun e R O C=>by
    have l:=G e R O;have p:=(mem_ready.1 g).1;rw[C]at l;simp only[Array.getD_eq_getD_getElem?]at p l;cases x:listed[i]? with
    | none=>simp[x]at p
    | some b=>simp[x]at p l;rw[p]at l;cases l
   have J:=wpOp_putIf r (y j oj r d z B) (fun cs b=>A i oi cs b s) (fun cs b=>A j oj cs b r) N q (H.2 j (ready_mono f d));refine wpOp_mono (fun F w' K=>?_) J;obtain⟨Y,t,M⟩:=K;refine⟨t,ih (listed.setIfInBounds j true) F w' (u.step f) (fun k X T V D W=>y k X T V ?_ W) (ready_mono g (Ne.symm d)) Y (t E) ?_⟩
   ·by_cases n:j=k
    ·exact n▸z
    ·rwa [getD_set_ne true n]at D
   ·rw[Array.setIfInBounds_comm _ _ d]
    exact M
theorem aX{i:Nat}{oi:Oper}(t:Nat)(v:Value){fuel:Nat}{listed:Array Bool}{a:Act}{w:World}(d:dep md ops ops.size L i=true)(l:wO md ops listed=true)(b:ops[i]?=some oi)
  (k:Region.noSelect ops=true) (g:Region.free md ops listed i=true) (hr:(Region.ready md ops listed).contains i=true)
  (e:∀c a w,Q (.panic c) (a.put oi.dst v) w->Q (.panic c) a w) (j:oi.guard=none) (ht:oi.dst=some t) (f:S w) (hy:∀w,S w->(execOp a.eval oi).run P w=.ok (.value v) w)
  (h:eB P md ops Q S L fuel (listed.setIfInBounds i true) (a.put (some t) v) w):eB P md ops Q S L (fuel+1) listed a w:=
 aAZ d b (Region.noSelect_spec k) e fuel listed a w (nM l) (Region.free_spec b g) (by simpa using hr) (.inl ⟨by simp[Region.wanted,j],hy⟩) f (by rw[ht];exact h)
end
end Go.Proofs.YtmpagpeenjddgaaGreat
namespace Go.Proofs.YtmpagpeenjddgaaGreat
open Go.RowKit
variable{a:Act}{ops:Array Oper}{Q:Exit->Act->World->Prop}{ys zs:List Int}{rest:List Oper}{j n:Nat}{o:Oper}{w:World}
theorem aME:(Tryz.prog.info? 156).map (fun i=>(i.zero,i.size,i.bytes))=some (some (.agg #[iV 0,iV 0,iV 0]),3,24):=by kernel_rfl
theorem dX(C:o.guard=none)(s x:Operand)
  (w:o.op=.call {callee:=.builtin .append,args:=#[s,x],argTypes:=#[81,81]})
  {base:Nat} {w0:World} {v:Value} {rs:List (Int×Int×Int)} (p q r:Int) (d:fK base w0 v rs) (y:a.eval s=v) (hx:a.eval x=sL w0.heap.size 0 1 1)
  (D:rs.length<1048576) (m:base<=w0.heap.size)
  (h:∀v' w',fK base w' v' (rs++[(p,q,r)])->Below base w0 w'->w0.heap.size<=w'.heap.size->wpList Tryz.prog ops Q rest (a.put o.dst v') w'):
  wpList Tryz.prog ops Q (o :: rest) a (w0.alloc (.cells #[iV p,iV q,iV r] 156)):=by
 obtain⟨z,n,c⟩:=Option.map_eq_some_iff.1 aME;simp only[Prod.mk.injEq]at c;obtain⟨B,A,g⟩:=c;refine wpList_append_own _ C s x 81 w base 156 z _ 3 24 Tryz.underlying81 n B A g rfl (by decide) v _ _ y (World.ownsRow.alloc d _) ⟨w0.heap.size,0,none⟩ 1 1 [iV p,iV q,iV r] hx rfl ?_ ?_ ?_ ?_ ?_ ?_
 ·intro j u b
  match j,b with
  | 0,b=>simp at b;subst b;simp[Addr.add,World.cell?_alloc_at]
  | 1,b=>simp at b;subst b;simp[Addr.add,World.cell?_alloc_at]
  | 2,b=>simp at b;subst b;simp[Addr.add,World.cell?_alloc_at]
 ·intro u f;simp at f;rcases f with rfl | rfl | rfl<;>rfl
 ·unfold maxLen;omega
 ·omega
 ·simp;omega
 ·intro v' w' l e _
  have i:Below base w0 w':=((bQ base w0).alloc m _).grown e (by simp;omega) (fun k t=>(d.lt k t).1);refine h v' w' ?_ i (by have:=e.size;simp at this;omega);unfold fK;rw[jU];simpa [fE] using l
theorem fK.er{base:Nat}{a:Option Addr}{cap:Nat}{pre:List (Int×Int×Int)}{x y z:Int}(h:fK base w (.slice a (pre.length+1) cap) (pre++[(x,y,z)])):
  ∃g,a=some ⟨g,0,none⟩/\base<=g/\g<w.heap.size/\w.cell? (aD g (pre.length*3+1))=some (iV y)/\w.frozen? (aD g (pre.length*3+1))=false/\
   ∀u,fK base (w.setCell (aD g (pre.length*3+1)) (iV u)) (.slice a (pre.length+1) cap) (pre++[(x,u,z)])/\Below base w (w.setCell (aD g (pre.length*3+1)) (iV u)):=by
 have f:(pre++[(x,y,z)]).length=pre.length+1:=by simp
 have b:w.ownsRow base 156 3 (.slice a (pre.length+1) cap) (pre.length+1) (fE (pre++[(x,y,z)])):=by rw[<-f];rw[<-f]at h;exact h
 have k:=b.lt;rcases b.2 with⟨_,e⟩ | ⟨g,c,m,i,d,o,q⟩
 ·omega
 ·simp only[Value.slice.injEq,true_and]at i
  obtain⟨rfl,rfl⟩:=i;have l:=vJ (pre++[(x,y,z)]) pre.length (by simp);refine⟨g,rfl,d,(k g rfl).2,?_,b.frozenAt _,fun u=>?_⟩
  ·rw[b.cellAt _ (by omega),l.2.1];simp
  ·obtain⟨j,r⟩:=b.stored (pre.length*3+1) (iV u)
   refine⟨?_,(bQ base w).setCell (p:=aD g (pre.length*3+1)) d _⟩;have n:(fE (pre++[(x,y,z)])).set (pre.length*3+1) (iV u)=fE (pre++[(x,u,z)]):=by
    rw[jU,jU,List.set_append_right _ _ (by rw[nU];omega),nU,show pre.length*3+1-pre.length*3=1 by omega];rfl
   rw[n]at j;unfold fK;rw[show(pre++[(x,u,z)]).length=pre.length+1 by simp];exact j
theorem belowA'(w:World)(o:Obj):Bl w (w.alloc o):=(bQ _ _).alloc (nR _) _
def bfr(zs:List Int)(k:Nat):Int:=if k=0 then 0 else zs.getD (k-1) 0
theorem yJ(zs:List Int)(k:Nat):bfr zs (k+1)=zs.getD k 0:=by simp[bfr]
theorem rns_more'(zs:List Int)(k:Nat)(h:zs.getD k 0≠0)(he:zs.getD k 0=bfr zs k):
  ∃(pre:List (Int×Int×Int)) (a b c:Int),rns zs k=pre++[(a,b,c)]/\rns zs (k+1)=pre++[(a,b+1,c)]/\0<=b/\b<=k:=by
 match k with
 | 0=>exact absurd he h
 | k+1=>
  rw[yJ]at he;obtain⟨pre,a,b,c,d,e,f,g⟩:=aJZ zs k h he.symm;exact⟨pre,a,b,c,d,e,f,by omega⟩
theorem aCM(v:Value)(zs:List Int)(w:World)(s:Nts w v zs)(hl:zs.length<=512):
  Calls Tryz.prog 138 #[v] w fun e w'=>∃u,e=.returned u/\fK w.heap.size w' u (rns zs zs.length)/\Bl w w':=by
 obtain⟨a,M,rfl,r⟩:=s.shape;go_enter Tryz.func138,Tryz.ntmps138;go_wp2;go_loopw [3,4,9] (fun u L i wr=>∃k:Nat,k<=zs.length/\i=iV k/\L=iV (bfr zs k)/\fK w.heap.size wr u (rns zs k)/\Bl w wr) (fun _ _ i _=>zs.length -(intOf i).toNat)
 case atStart=>exact⟨0,Nat.zero_le _,rfl,rfl,fK.start _ _,bQ _ _⟩
 case round=>
  obtain⟨k,hk,rfl,rfl,f,j⟩:=hrel;have P:=tU zs k;obtain⟨ua,uc,F⟩:=f.shape;subst F;have K:=j.size;by_cases I:k<zs.length
  ·obtain⟨b,off,rfl,o⟩:=r (by omega)
   have O:b<w.heap.size:=World.block_lt_of_cell? _ _ (o 0 (by omega));have N:wr.cell? (aD b (off+k))=some (iV (zs.getD k 0)):=(j.cell (p:=aD b (off+k)) O).trans (o k I);have l:Hid (bfr zs (k+1)=zs.getD k 0):=yJ zs k;clear r o s;by_cases d:zs.getD k 0=0
   ·have G:Hid (rns zs (k+1)=rns zs k):=aKA zs k d
    rw[d]at N l;clear d;go_wp2;go_roundw
    case rel=>exact⟨k+1,by omega,by go_num,by rw[l.out],by rw[G.out];exact f,j⟩
    case measure=>simp[intOf];omega
   ·have R:(zs.getD k 0 == 0)=false:=by simpa using d
    by_cases h:zs.getD k 0=bfr zs k
    ·obtain⟨c,x,y,z,q,B,U,S⟩:=rns_more' zs k d h
     have m:Hid (rns zs (k+1)=c++[(x,y+1,z)]):=B;have n:(rns zs k).length=c.length+1:=by rw[q];simp
     rw[n]at f P;rw[n];rw[q]at f;rw[<-h];obtain⟨g,rfl,lw,yf,X,Y,A⟩:=f.er;have t:Hid _:=A (y+1);have T:(zs.getD k 0 == zs.getD k 0)=true:=by simp
     have tj:(c.length:Int) <((c.length+1:Nat):Int):=by omega
     generalize zs.getD k 0=Q at *;clear f A h d q B n;go_wp2;go_roundw
     case rel=>exact⟨k+1,by omega,by go_num,by rw[l.out],by rw[m.out];exact t.out.1,j.trans t.out.2⟩
     case measure=>simp[intOf];omega
    ·have V:(zs.getD k 0 == bfr zs k)=false:=by simpa using h
     have m:Hid (rns zs (k+1)=rns zs k++[((k:Int),1,zs.getD k 0)]):=aMP zs k d (by
      unfold bfr at h;by_cases C:k=0
      ·exact .inl C
      ·rw[if_neg C]at h;exact .inr (Ne.symm h))
     have E:(rns zs k).length<1048576:=by omega
     generalize zs.getD k 0=Q at *;generalize bfr zs k=W at *;clear d h;go_wp2_with (first | (at_builtin;refine dX rfl _ _ rfl _ _ _ f rfl rfl E K ?_;intro v' w1 D J Z) | go_in);rw[<-m.out]at D;go_roundw
     case rel=>exact⟨k+1,by omega,by go_num,by rw[l.out],D,j.trans J⟩
     case measure=>simp[intOf];omega
  ·have H:k=zs.length:=by omega
   subst H;clear r s;go_wp2;go_ret;exact⟨_,rfl,f,j⟩
theorem aNJ{i:Nat}(h:¬(zs.getD i 0≠0/\(i=0\/zs.getD (i-1) 0≠zs.getD i 0))):st zs i=false:=by
 rw[<-Bool.not_eq_true,kG];exact h
theorem aCB(v:Value)(zs:List Int)(w:World)(R:Nts w v zs)(hl:zs.length<=512):
  Calls Tryz.prog 66 #[v] w fun e w'=>∃u,e=.returned u/\fK w.heap.size w' u (rns zs zs.length)/\Bl w w':=by
 obtain⟨a,cap,rfl,Q⟩:=R.shape;go_enter Tryz.func66,Tryz.ntmps66;go_wp2;go_loopw [3,4] (fun u i wr=>∃k:Nat,k<=zs.length/\i=iV k/\fK w.heap.size wr u (srn zs zs.length k)/\Bl w wr) (fun _ i _=>zs.length -(intOf i).toNat)
 case atStart=>exact⟨0,Nat.zero_le _,rfl,fK.lit _ _ (nR _) _ rfl,belowA' _ _⟩
 case round=>
  obtain⟨k,hk,rfl,s,t⟩:=hrel;have ut:=aCR zs zs.length k;obtain⟨W,X,Y⟩:=s.shape;subst Y;have I:=t.size;by_cases ai:k<zs.length
  ·obtain⟨b,off,rfl,N⟩:=Q (by omega)
   have nm:b<w.heap.size:=World.block_lt_of_cell? _ _ (N 0 (by omega));have L:∀j,j<zs.length->wr.cell? (aD b (off+j))=some (iV (zs.getD j 0)):=fun j hj=>(t.cell (p:=aD b (off+j)) nm).trans (N j hj);have g1:=L k ai;have H:Hid (∀j,j<zs.length->wr.cell? (aD b (off+j))=some (iV (zs.getD j 0))):=L;obtain⟨d,g⟩:∃z,Hid (zs.getD k 0=z):=⟨_,rfl⟩;rw[g.out]at g1;clear L;have hi:(k:Int) <(zs.length:Int):=by omega
   clear Q N R;by_cases y:zs.getD k 0=0
   ·have M:Hid (srn zs zs.length (k+1)=srn zs zs.length k):=aKP _ _ _ (aNJ fun h=>h.1 y)
    rw[g.out]at y;subst y;go_wp2;go_quiet (fail);go_wp2;go_roundw
    case rel=>exact⟨k+1,by omega,by go_num,by rw[M.out];exact s,below_drewN t _⟩
    case measure=>simp[intOf];omega
   ·have LW:(d == 0)=false:=by rw[<-g.out];simpa using y
    by_cases x:0<k/\zs.getD (k-1) 0=zs.getD k 0
    ·have M:Hid (srn zs zs.length (k+1)=srn zs zs.length k):=aKP _ _ _ (aNJ fun h=>by
      rcases h.2 with e | e
      ·omega
      ·exact e x.2)
     have J:=x.1;have bx:IntKind.i64.wrap ((k:Int)-1)=((k-1:Nat):Int):=(IntWalk.i64_in _ ⟨by omega,by omega⟩).trans (by omega);have fk:((k-1:Nat):Int) <(zs.length:Int):=by omega
     have V:=H.out (k-1) (by omega);rw[x.2,g.out]at V;have U:(d == d)=true:=by simp
     generalize k-1=k1 at *;clear x y;go_wp2;go_quiet (fail);go_wp2;go_roundw
     case rel=>exact⟨k+1,by omega,by go_num,by rw[M.out];exact s,below_drewN t _⟩
     case measure=>simp[intOf];omega
    ·have K:st zs k=true:=kG.2 ⟨y,by
      by_cases J:k=0
      ·exact .inl J
      ·exact .inr fun e=>x ⟨by omega,e⟩⟩
     by_cases J:0<k
     ·have hnk:(zs.getD (k-1) 0 == d)=false:=by rw[<-g.out];simpa using fun e=>x ⟨J,e⟩
      have bx:IntKind.i64.wrap ((k:Int)-1)=((k-1:Nat):Int):=(IntWalk.i64_in _ ⟨by omega,by omega⟩).trans (by omega);have fk:((k-1:Nat):Int) <(zs.length:Int):=by omega
      have V:=H.out (k-1) (by omega);generalize zs.getD (k-1) 0=zj at *;generalize k-1=k1 at *;have G:Hid (st zs k=true):=K;have E:Hid (∀n,fK w.heap.size (wr.drewN n) (.slice W (srn zs zs.length k).length X) (srn zs zs.length k)):=fun _=>s;clear x y K s;go_wp2;go_quiet (fail);go_wp2;go_loopw [5,6] (fun n i T=>∃m:Nat,k+m<=zs.length/\i=iV ((k+m:Nat):Int)/\n=iV m/\chQ zs k m=m/\∃q,T=wr.drewN q) (fun _ i _=>zs.length -(intOf i).toNat)
      case atStart=>exact⟨0,by omega,rfl,rfl,rfl,_,rfl⟩
      case round=>
       obtain⟨m,hm,rfl,rfl,f,q,rfl⟩:=hrel;by_cases o:k+m<zs.length
       ·have P:=H.out (k+m) o
        by_cases l:zs.getD (k+m) 0=zs.getD k 0
        ·have c:chQ zs k (m+1)=m+1:=by simp only[chQ];rw[if_pos ⟨f,l⟩]
         have U:(d == d)=true:=by simp
         rw[l,g.out]at P;have F:((k+m:Nat):Int) <(zs.length:Int):=by omega
         have HM:Hid (k+(m+1)=k+m+1):=rfl;generalize Dl:k+m=C at *;clear f l;go_wp2;go_quiet (fail);go_wp2;go_roundw
         case rel=>exact⟨m+1,by omega,by go_num,by go_num,c,_,rfl⟩
         case measure=>simp[intOf];omega
        ·have Z:(zs.getD (k+m) 0 == d)=false:=by rw[<-g.out];simpa using l
         have c:chQ zs k (zs.length-k)=m:=by
          have:=wM f l (zs.length-k-m)
          rwa [show m+(zs.length-k-m)=zs.length-k by omega]at this
         have D:Hid (srn zs zs.length (k+1)=srn zs zs.length k++[((k:Int),(m:Int),d)]):=by rw[<-c,<-g.out];exact rF _ _ _ G.out
         have F:((k+m:Nat):Int) <(zs.length:Int):=by omega
         have A:(srn zs zs.length k).length<1048576:=by omega
         generalize Dl:k+m=C at *;generalize zs.getD C 0=zm at *;clear f l c;go_wp2;go_quiet (fail);go_wp2_with (first | (at_builtin;refine dX rfl _ _ rfl _ _ _ (E.out _) rfl rfl A I ?_;intro S w1 r B O) | go_in);rw[<-D.out]at r;go_roundw
         case rel=>exact⟨k+1,by omega,by go_num,r,(below_drewN t _).trans B⟩
         case measure=>simp[intOf];omega
       ·have c:chQ zs k (zs.length-k)=m:=by rw[show zs.length-k=m by omega];exact f
        have D:Hid (srn zs zs.length (k+1)=srn zs zs.length k++[((k:Int),(m:Int),d)]):=by rw[<-c,<-g.out];exact rF _ _ _ G.out
        have A:(srn zs zs.length k).length<1048576:=by omega
        have F:¬((k+m:Nat):Int) <(zs.length:Int):=by omega
        generalize Dl:k+m=C at *;clear f c;go_wp2;go_quiet (fail);go_wp2_with (first | (at_builtin;refine dX rfl _ _ rfl _ _ _ (E.out _) rfl rfl A I ?_;intro S w1 r B O) | go_in);rw[<-D.out]at r;go_roundw
        case rel=>exact⟨k+1,by omega,by go_num,r,(below_drewN t _).trans B⟩
        case measure=>simp[intOf];omega
     ·have S8:k=0:=by omega
      have hkz:¬(0:Int) <(k:Int):=by omega
      have G:Hid (st zs k=true):=K;have E:Hid (∀n,fK w.heap.size (wr.drewN n) (.slice W (srn zs zs.length k).length X) (srn zs zs.length k)):=fun _=>s;clear x y K s S8;go_wp2;go_quiet (fail);go_wp2;go_loopw [5,6] (fun n i T=>∃m:Nat,k+m<=zs.length/\i=iV ((k+m:Nat):Int)/\n=iV m/\chQ zs k m=m/\∃q,T=wr.drewN q) (fun _ i _=>zs.length -(intOf i).toNat)
      case atStart=>exact⟨0,by omega,rfl,rfl,rfl,_,rfl⟩
      case round=>
       obtain⟨m,hm,rfl,rfl,f,q,rfl⟩:=hrel;by_cases o:k+m<zs.length
       ·have P:=H.out (k+m) o
        by_cases l:zs.getD (k+m) 0=zs.getD k 0
        ·have c:chQ zs k (m+1)=m+1:=by simp only[chQ];rw[if_pos ⟨f,l⟩]
         have U:(d == d)=true:=by simp
         rw[l,g.out]at P;have F:((k+m:Nat):Int) <(zs.length:Int):=by omega
         have HM:Hid (k+(m+1)=k+m+1):=rfl;generalize Dl:k+m=C at *;clear f l;go_wp2;go_quiet (fail);go_wp2;go_roundw
         case rel=>exact⟨m+1,by omega,by go_num,by go_num,c,_,rfl⟩
         case measure=>simp[intOf];omega
        ·have Z:(zs.getD (k+m) 0 == d)=false:=by rw[<-g.out];simpa using l
         have c:chQ zs k (zs.length-k)=m:=by
          have:=wM f l (zs.length-k-m)
          rwa [show m+(zs.length-k-m)=zs.length-k by omega]at this
         have D:Hid (srn zs zs.length (k+1)=srn zs zs.length k++[((k:Int),(m:Int),d)]):=by rw[<-c,<-g.out];exact rF _ _ _ G.out
         have F:((k+m:Nat):Int) <(zs.length:Int):=by omega
         have A:(srn zs zs.length k).length<1048576:=by omega
         generalize Dl:k+m=C at *;generalize zs.getD C 0=zm at *;clear f l c;go_wp2;go_quiet (fail);go_wp2_with (first | (at_builtin;refine dX rfl _ _ rfl _ _ _ (E.out _) rfl rfl A I ?_;intro S w1 r B O) | go_in);rw[<-D.out]at r;go_roundw
         case rel=>exact⟨k+1,by omega,by go_num,r,(below_drewN t _).trans B⟩
         case measure=>simp[intOf];omega
       ·have c:chQ zs k (zs.length-k)=m:=by rw[show zs.length-k=m by omega];exact f
        have D:Hid (srn zs zs.length (k+1)=srn zs zs.length k++[((k:Int),(m:Int),d)]):=by rw[<-c,<-g.out];exact rF _ _ _ G.out
        have A:(srn zs zs.length k).length<1048576:=by omega
        have F:¬((k+m:Nat):Int) <(zs.length:Int):=by omega
        generalize Dl:k+m=C at *;clear f c;go_wp2;go_quiet (fail);go_wp2_with (first | (at_builtin;refine dX rfl _ _ rfl _ _ _ (E.out _) rfl rfl A I ?_;intro S w1 r B O) | go_in);rw[<-D.out]at r;go_roundw
        case rel=>exact⟨k+1,by omega,by go_num,r,(below_drewN t _).trans B⟩
        case measure=>simp[intOf];omega
  ·have ML:k=zs.length:=by omega
   subst ML;rw[aMU]at s;clear Q R;go_wp2;go_ret;exact⟨_,rfl,s,t⟩
def nB(zs:List Int)(fr:List (Blk n)):List Int:=fr.foldl (fun l x=>l.set x.1 1) zs
theorem vT(zs:List Int)(a:List (Blk n))(x:Blk n):nB zs (a++[x])=(nB zs a).set x.1 1:=by simp[nB]
theorem qG(zs:List Int)(a:List (Blk n)):(nB zs a).length=zs.length:=by
 induction a generalizing zs with
 | nil=>rfl
 | cons x l ih=>simp only[nB,List.foldl_cons]at ih |-;rw[ih];simp
def rnO(zs:List Int)(fr:List (Blk n)):List (Int×Int×Int):=rns (nB zs fr) zs.length
def good(zs:List Int)(fr:List (Blk n)):Bool:=decide ((rnO zs fr).length<=20*fr.length)
theorem tT(zs:List Int)(a:List (Blk n)):(rnO zs a).length<=zs.length:=tU _ _
def lI(zs ys:List Int):Option Nat:=(List.range (frs zs ys zs.length zs.length).length).find? fun j=>good zs ((frs zs ys zs.length zs.length).take (j+1))
theorem tK(h:∀j,j <(frs zs ys zs.length zs.length).length->good zs ((frs zs ys zs.length zs.length).take (j+1))=false):lI zs ys=none:=
 List.find?_range_eq_none.2 fun i a=>by rw[h i a];rfl
theorem tL(c:j <(frs zs ys zs.length zs.length).length)(a:good zs ((frs zs ys zs.length zs.length).take (j+1))=true)(h:∀i,i<j->good zs ((frs zs ys zs.length zs.length).take (i+1))=false):lI zs ys=some j:=
 List.find?_range_eq_some.2 ⟨a,List.mem_range.2 c,fun i b=>by rw[h i b];rfl⟩
def plF(zs ys:List Int):List (Blk zs.length):=if chk [zs,ys]=0 then(match lI zs ys with
 | none=>[]
 | some j=>(frs zs ys zs.length zs.length).take (j+1))else []
def plP(zs ys:List Int):List Int:=(plF zs ys).map fun x=>(x.1:Int)
def plR(zs ys:List Int):List (Int×Int×Int):=if chk [zs,ys]=0 then(match lI zs ys with
 | none=>[]
 | some j=>rnO zs ((frs zs ys zs.length zs.length).take (j+1)))else []
def plC(zs ys:List Int):Int:=if chk [zs,ys]=0 then(match lI zs ys with
 | none=>7
 | some _=>0)else chk [zs,ys]
theorem aPH(h:chk [zs,ys]≠0):plP zs ys=[]/\plR zs ys=[]/\plC zs ys=chk [zs,ys]:=by
 simp[plP,plF,plR,plC,h]
theorem xL(h:chk [zs,ys]=0)(a:lI zs ys=none):plP zs ys=[]/\plR zs ys=[]/\plC zs ys=7:=by
 simp[plP,plF,plR,plC,h,a]
theorem xM(h:chk [zs,ys]=0)(a:lI zs ys=some j):plP zs ys=((frs zs ys zs.length zs.length).take (j+1)).map (fun x=>(x.1:Int))/\plR zs ys=rnO zs ((frs zs ys zs.length zs.length).take (j+1))/\plC zs ys=0:=by
 simp[plP,plF,plR,plC,h,a]
theorem tI(zs ys:List Int):(plP zs ys).length<=512:=by
 by_cases h:chk [zs,ys]=0
 ·have c:=(rM (iP h).2.1).1
  have b:=jV zs ys zs.length zs.length;cases a:lI zs ys with
  | none=>rw[(xL h a).1];simp
  | some j=>rw[(xM h a).1];simp;omega
 ·rw[(aPH h).1];simp
theorem pV(F:o.guard=none)(s x:Operand)
  (A:o.op=.call {callee:=.builtin .append,args:=#[s,x],argTypes:=#[29,29]})
  {base:Nat} {v:Value} {zs ys:List Int} (d:dJ base w v zs) {ad:Addr} {n c:Nat} (hn:ys.length=n) (m:∀i,i<n->w.cell? (ad.add i)=some (iV (ys.getD i 0))) (B:a.eval s=v) (hx:a.eval x=.slice (some ad) n c)
  (G:zs.length+n<8589934592) (e:base<=w.heap.size)
  (h:∀v' w',dJ base w' v' (zs++ys)->Below base w w'->wpList Tryz.prog ops Q rest (a.put o.dst v') w'):
  wpList Tryz.prog ops Q (o :: rest) a w:=by
 obtain⟨C,t,E,D,l⟩:=info_parts pI;refine wpList_append_own _ F s x 29 A base 2 C (iV 0) 1 8 Tryz.underlying29 t E D l rfl (by decide) v _ _ B d ad n c (ys.map (Value.int .i64)) hx (by simp[hn]) ?_ ?_ ?_ ?_ e ?_
 ·intro j u b
  have g:j<ys.length:=by
   by_cases r:j<ys.length
   ·exact r
   ·simp[show ys.length<=j by omega]at b
  rw[m j (by omega)];simp only[List.getElem?_map,gE g,Option.map_some,sJ]at b;rw[<-b];simp[g]
 ·intro u f
  simp only[List.mem_map]at f;obtain⟨z,_,rfl⟩:=f;rfl
 ·unfold maxLen;omega
 ·omega
 ·intro v' w' p q _
  refine h v' w' ?_ ((bQ base w).grown q e (fun k y=>(d.lt k y).1));unfold dJ;simpa [hn] using p
theorem Addr.dm(b off i:Nat):(({block:=b,off:=off,spot:=none}:Addr).add i)=⟨b,off+i,none⟩:=by
 unfold Addr.add;by_cases a:i=0<;>simp[a]
theorem pY(a:Option Addr)(c:Nat)(zs:List Int)(w:World)(p:0<zs.length)(hn:zs.length<=1048576)(k:Nts w (.slice a zs.length c) zs):
  Calls Tryz.prog 131 #[.slice a zs.length c] w fun e w'=>∃u,e=.returned u/\dJ w.heap.size w' u zs/\Bl w w':=by
 obtain⟨_,_,g,j⟩:=k.shape;simp only[Value.slice.injEq,true_and]at g;obtain⟨rfl,rfl⟩:=g;obtain⟨b,off,rfl,f⟩:=j p;have s:=fun w=>Lib.run_eql_slice_nil (P:=Tryz.prog) w 29 2 (some ⟨b,off,none⟩) zs.length c 0 0 Tryz.underlying29;have q:=dJ.lit w.heap.size w (nR _) w.heap.size rfl;have o:∀i,i<zs.length->(w.alloc (.cells #[] 2)).cell? ((⟨b,off,none⟩:Addr).add i)=some (iV (zs.getD i 0)):=fun i t=>by
  rw[Addr.dm,World.cell?_alloc_past _ _ _ (World.block_lt_of_cell? _ _ (f i (by omega)))];exact f i (by omega)
 have r:=iO w (.cells #[] 2);have l:Hid (∀(d:Value) (w':World),dJ w.heap.size w' d ([]++zs)->dJ w.heap.size w' d zs):=fun _ _ h=>h;clear j f k;go_enter Tryz.func131,Tryz.ntmps131;go_wp2_with (at_builtin;refine pV rfl _ _ rfl q rfl o rfl rfl (by simp;omega) (by simp) ?_;intro d w1 m n);go_ret;exact⟨d,rfl,l.out _ _ m,r.trans n⟩
end Go.Proofs.YtmpagpeenjddgaaGreat
namespace Go.Proofs.YtmpagpeenjddgaaGreat
open Go.RowKit Go.Shelf
variable{zs:List Int}{xs:List Value}{cap g k s size:Nat}{tmp:Obj}{e:TypeId}{cs ct v v':Value}{W W' w w1:World}
theorem cD{B:Nat}{t:TypeId}(h:Boxed W B t v)(k:Bl W W'):Boxed W' B t v:=(k.block B h.lt).trans h
theorem aGE{β:Type}(u e:Nat)(v:Value)(f:β->List Int):Own (fun s W=>bE u e W v (f s)):=by
 rintro s X Y w h d j;obtain⟨a,c,t,q⟩:=h.shape;refine⟨h.small,a,c,t,fun r=>?_⟩;obtain⟨b,off,p,m,n,o,k⟩:=q r;refine⟨b,off,p,m,n,lL o d.size,fun i e=>?_⟩;obtain⟨g,l⟩:=k i e;exact⟨cell_kept g d j,(frozen_kept g d j).trans l⟩
structure PlS(w:World)(s g cap:Nat)(cs ct:Value)(zs:List Int)(pre:List (Blk zs.length))(v:Value)(W:World):Prop where
 dd:Boxed W (s+1) 29 v
 row:W.ownsRow s 2 1 v pre.length (pre.map fun x=>iV (x.1:Int))
 b6:Boxed W s 29 (sL g 0 zs.length cap)
 ek:bE g (g+1) W (sL g 0 zs.length cap) (nB zs pre)
 r0:Boxed W w.heap.size 29 (.slice none 0 0)
 r1:Boxed W (w.heap.size+1) 81 (.slice none 0 0)
 r2:Boxed W (w.heap.size+1+1) 2 (iV 0)
 bs:Boxed W (s+1+1) 29 cs
 bt:Boxed W (s+1+1+1) 29 ct
 bk:Bl w W
theorem aML(k:w.heap.size<=s):OwnFrom s (fun(pre:List (Blk zs.length)) W=>∃v,PlS w s g cap cs ct zs pre v W):=by
 rintro pre X Y a ⟨v,h⟩ b d;have c:∀r,a=some r->∃o:Obj,X.heap[r]?=some o/\o.isCells=false:=fun r e=>(d r e).2;obtain⟨l,f,i,j⟩:=holdsRow_own (β:=Unit) s (s+1) 29 2 1 (fun _=>pre.length) (fun _=>pre.map fun x=>iV (x.1:Int)) (fun _ u=>u=v) () X Y a ⟨v,h.dd,h.row,rfl⟩ b c;subst j;exact⟨l,f,i,boxed_own (β:=Unit) _ _ (fun _=>_) () X Y a h.b6 b c,aGE (β:=Unit) _ _ _ (fun _=>nB zs pre) () X Y a h.ek b c,boxed_own (β:=Unit) _ _ (fun _=>_) () X Y a h.r0 b c,boxed_own (β:=Unit) _ _ (fun _=>_) () X Y a h.r1 b c,boxed_own (β:=Unit) _ _ (fun _=>_) () X Y a h.r2 b c,boxed_own (β:=Unit) _ _ (fun _=>_) () X Y a h.bs b c,boxed_own (β:=Unit) _ _ (fun _=>_) () X Y a h.bt b c,ownFrom_below (β:=Unit) (nR _) k () X Y a h.bk b d⟩
theorem PlS.appended{pre:List (Blk zs.length)}{x:Blk zs.length}(h:PlS w s g cap cs ct zs pre v W)(z:w.heap.size+3<s)(y:g<s)(A:w.heap.size+3<g)
  (j:w1.ownsRow s 2 1 v' (pre.length+1) ((pre.map fun x=>iV (x.1:Int))++[iV (x.1:Int)])) (f:(W.alloc tmp).grownBy w1 v.ownBlock):
  Boxed w1 (s+1) 29 v/\Boxed (w1.setCell (aD (s+1) 0) v') (s+1) 29 v'/\(w1.setCell (aD (s+1) 0) v').ownsRow s 2 1 v' (pre++[x]).length ((pre++[x]).map fun x=>iV (x.1:Int))/\
  Boxed (w1.setCell (aD (s+1) 0) v') s 29 (sL g 0 zs.length cap)/\bE g (g+1) (w1.setCell (aD (s+1) 0) v') (sL g 0 zs.length cap) (nB zs pre)/\
  Boxed (w1.setCell (aD (s+1) 0) v') w.heap.size 29 (.slice none 0 0)/\Boxed (w1.setCell (aD (s+1) 0) v') (w.heap.size+1) 81 (.slice none 0 0)/\Boxed (w1.setCell (aD (s+1) 0) v') (w.heap.size+1+1) 2 (iV 0)/\
  Boxed (w1.setCell (aD (s+1) 0) v') (s+1+1) 29 cs/\Boxed (w1.setCell (aD (s+1) 0) v') (s+1+1+1) 29 ct/\Below s W (w1.setCell (aD (s+1) 0) v')/\KeepsOthers W (w1.setCell (aD (s+1) 0) v'):=by
 have i:s<=W.heap.size:=by have:=h.b6.lt;omega
 obtain⟨l,m,n,o,a⟩:=h.dd.appended (by decide) h.row i (by omega) j f;have e:∀{B:Nat} {u:Value},Boxed W B 29 u->B≠s+1->Boxed (w1.setCell (aD (s+1) 0) v') B 29 u:=fun c k=>((c.alloc tmp).kept f (c.not_row (by decide) h.row)).other k _;have d:∀{B:Nat} {t:TypeId} {u:Value},Boxed W B t u->B<s->Boxed (w1.setCell (aD (s+1) 0) v') B t u:=fun c p=>(a.block _ p).trans c;exact⟨l,m,by simpa using n,e h.b6 (by omega),h.ek.kept a.size fun b q r _=>a.block b (by omega),d h.r0 (by omega),d h.r1 (by omega),d h.r2 (by omega),e h.bs (by omega),e h.bt (by omega),a,o⟩
theorem PlS.eo{pre:List (Blk zs.length)}(x:Blk zs.length)(h:PlS w s g cap cs ct zs pre v W)(u:g<s)(c:(W.alloc tmp).grownBy w1 v.ownBlock):
  w1.cell? (aD s 0)=some (sL g 0 zs.length cap)/\w1.cell? (aD g x.1)=some (iV ((nB zs pre).getD x.1 0))/\w1.frozen? (aD g x.1)=false:=by
 have k:Boxed w1 s 29 (sL g 0 zs.length cap):=(h.b6.alloc tmp).kept c (h.b6.not_row (by decide) h.row);have j:w1.heap[g]?=W.heap[g]?:=by
  have i:g<W.heap.size:=by have:=h.b6.lt;omega
  rw[c.block g (by simp;omega) (fun e=>?_)]
  ·exact Below.heap_alloc W tmp g i
  ·rcases h.row.2 with⟨rfl,_⟩ | ⟨p,_,_,rfl,t,_⟩
   ·simp[Value.ownBlock]at e
   ·simp[Value.ownBlock]at e;omega
 have o:∀b,g<=b->b<g+1->b<W.heap.size->w1.heap[b]?=W.heap[b]?:=fun b q r _=>by rw[show b=g by omega];exact j
 have l:=h.ek.kept (w':=w1) (by have:=c.size;simp at this;omega) o;obtain⟨_,_,a,n⟩:=l.shape;simp only[Value.slice.injEq]at a;obtain⟨rfl,z,rfl⟩:=a;have y:=x.2.2;obtain⟨_,_,a,_,_,_,m⟩:=n (by omega);simp only[sJ,Addr.mk.injEq,and_true]at a;obtain⟨rfl,rfl⟩:=a;obtain⟨d,f⟩:=m x.1 (by omega);rw[Nat.zero_add]at d f;exact⟨k.cell,d,f⟩
theorem oF(h:Bl W W'):KeepsOthers W W':=⟨h.size,fun k o a _=>(h.block k (Array.getElem?_eq_some_iff.1 a).1).trans a⟩
theorem aGF{pre:List (Blk zs.length)}(h:PlS w s g cap cs ct zs pre v W)(k:Bl W W'):PlS w s g cap cs ct zs pre v W':=
 ⟨cD h.dd k,by
  rcases h.row.2 with e | ⟨b,c,cu,i,d,a,f⟩
  ·exact⟨h.row.1,.inl e⟩
  ·exact⟨h.row.1,.inr ⟨b,c,cu,i,d,(k.block b (Array.getElem?_eq_some_iff.1 a).1).trans a,f⟩⟩,cD h.b6 k,h.ek.below k,cD h.r0 k,cD h.r1 k,cD h.r2 k,cD h.bs k,cD h.bt k,h.bk.trans (k.mono h.bk.size)⟩
theorem PlS.next{pre:List (Blk zs.length)}{x:Blk zs.length}(h:PlS w s g cap cs ct zs pre v W)(A:w.heap.size+3<s)(z:g<s)(M:w.heap.size+3<g)
  (l:w1.ownsRow s 2 1 v' (pre.length+1) ((pre.map fun x=>iV (x.1:Int))++[iV (x.1:Int)])) (E:(W.alloc tmp).grownBy w1 v.ownBlock):
  PlS w s g cap cs ct zs (pre++[x]) v' ((w1.setCell (aD (s+1) 0) v').setCell (aD g x.1) (iV 1))/\KeepsOthers W ((w1.setCell (aD (s+1) 0) v').setCell (aD g x.1) (iV 1))/\
   Below w.heap.size W ((w1.setCell (aD (s+1) 0) v').setCell (aD g x.1) (iV 1)):=by
 obtain⟨N,F,f,G,H,I,J,K,L,b,c,d⟩:=h.appended A z M l E;have D:=x.2.2;have k:=H.stored x.1 D 1 (by omega);rw[Nat.zero_add,<-vT]at k;have a:∀{B:Nat} {t:TypeId} {u:Value},Boxed (w1.setCell (aD (s+1) 0) v') B t u->B≠g->Boxed ((w1.setCell (aD (s+1) 0) v').setCell (aD g x.1) (iV 1)) B t u:=fun y m=>(Below.heap_setCell _ _ _ _ m).trans y;have j:Below w.heap.size W ((w1.setCell (aD (s+1) 0) v').setCell (aD g x.1) (iV 1)):=(c.mono (by omega)).setCell (p:=aD g x.1) (by show w.heap.size<=g;omega) _;refine⟨⟨a F (by omega),?_,a G (by omega),k.1,a I (by omega),a J (by omega),a K (by omega),a L (by omega),a b (by omega),h.bk.trans j⟩,d.trans (KeepsOthers.setCell _ _ _),j⟩;rcases f.2 with e | ⟨i,n,cu,C,o,q,r⟩
 ·exact⟨f.1,.inl e⟩
 ·exact⟨f.1,.inr ⟨i,n,cu,C,o,(Below.heap_setCell _ _ _ _ (by show i≠g;omega)).trans q,r⟩⟩
theorem PlS.kp{pre pre':List (Blk zs.length)}(h:PlS w s g cap cs ct zs pre v W)(a:PlS w s g cap cs ct zs pre' v' W')(b:Below w.heap.size W W'):KpF w.heap.size (s+1+1) (s+1+1+1) W W':=
 ⟨b,a.bs.trans h.bs.symm,a.bt.trans h.bt.symm⟩
def PlE(w:World)(s:Nat)(zs:List Int)(pre:List (Blk zs.length))(W:World):Prop:=
 ∃p q,Boxed W w.heap.size 29 p/\Boxed W (w.heap.size+1) 81 q/\Boxed W (w.heap.size+1+1) 2 (iV 0)/\W.ownsRow s 2 1 p pre.length (pre.map fun x=>iV (x.1:Int))/\W.ownsRow s 156 3 q (rnO zs pre).length (fE (rnO zs pre))/\Bl w W
theorem fH(h:W.ownsRow s e size v k xs){p:Addr}(i:p.block<s)(u:Value):(W.setCell p u).ownsRow s e size v k xs:=by
 rcases h.2 with e | ⟨f,a,cu,g,b,c,d⟩
 ·exact⟨h.1,.inl e⟩
 ·exact⟨h.1,.inr ⟨f,a,cu,g,b,(Below.heap_setCell _ _ _ _ (by omega)).trans c,d⟩⟩
theorem tW{s':Nat}(h:W.ownsRow s e size v k xs)(g:s'<=s):W.ownsRow s' e size v k xs:=by
 rcases h.2 with e | ⟨c,a,cu,d,f,b⟩
 ·exact⟨h.1,.inl e⟩
 ·exact⟨h.1,.inr ⟨c,a,cu,d,by omega,b⟩⟩
theorem PlS.ends{base:Nat}{pre:List (Blk zs.length)}{q:Value}(h:PlS w s g cap cs ct zs pre v W)(c:w.heap.size+3<s)(b:fK base W q (rnO zs pre))(a:s<=base):
  PlE w s zs pre (((W.setCell (aD w.heap.size 0) v).setCell (aD (w.heap.size+1) 0) q).setCell (aD (w.heap.size+1+1) 0) (iV 0)):=by
 have r1:Boxed (W.setCell (aD w.heap.size 0) v) (w.heap.size+1) 81 (.slice none 0 0):=h.r1.other (by omega) _;have r2:Boxed ((W.setCell (aD w.heap.size 0) v).setCell (aD (w.heap.size+1) 0) q) (w.heap.size+1+1) 2 (iV 0):=(h.r2.other (by omega) _).other (by omega) _;refine⟨v,q,((h.r0.set v).other (by omega) _).other (by omega) _,(r1.set q).other (by omega) _,r2.set _,?_,?_,?_⟩
 ·exact fH (fH (fH h.row (by show w.heap.size<s;omega) _) (by show w.heap.size+1<s;omega) _) (by show w.heap.size+1+1<s;omega) _
 ·exact fH (fH (fH (tW b a) (by show w.heap.size<s;omega) _) (by show w.heap.size+1<s;omega) _) (by show w.heap.size+1+1<s;omega) _
 ·exact((h.bk.setCell (p:=aD w.heap.size 0) (nR _) _).setCell (p:=aD (w.heap.size+1) 0) (by show w.heap.size<=w.heap.size+1;omega) _).setCell (p:=aD (w.heap.size+1+1) 0) (by show w.heap.size<=w.heap.size+1+1;omega) _
theorem aMK(z:w.heap.size<=s):OwnFrom s (fun(pre:List (Blk zs.length)) W=>PlE w s zs pre W):=by
 rintro pre X Y a ⟨p,q,l,m,n,t,v,y⟩ b d;have c:∀r,a=some r->∃o:Obj,X.heap[r]?=some o/\o.isCells=false:=fun r e=>(d r e).2;obtain⟨A,f,g,h⟩:=holdsRow_own (β:=Unit) s w.heap.size 29 2 1 (fun _=>pre.length) (fun _=>pre.map fun x=>iV (x.1:Int)) (fun _ u=>u=p) () X Y a ⟨p,l,t,rfl⟩ b c;subst h;obtain⟨B,i,j,k⟩:=holdsRow_own (β:=Unit) s (w.heap.size+1) 81 156 3 (fun _=>(rnO zs pre).length) (fun _=>fE (rnO zs pre)) (fun _ u=>u=q) () X Y a ⟨q,m,v,rfl⟩ b c;subst k;exact⟨A,B,f,i,boxed_own (β:=Unit) _ _ (fun _=>_) () X Y a n b c,g,j,ownFrom_below (β:=Unit) (nR _) z () X Y a y b d⟩
theorem aFN{n:Nat}{pre:List (Blk n)}{x:Blk n}(h:∀j,j<pre.length->good zs (pre.take (j+1))=false)(hx:good zs (pre++[x])=false):∀j,j <(pre++[x]).length->good zs ((pre++[x]).take (j+1))=false:=fun j a=>by
 by_cases e:j<pre.length
 ·rw[List.take_append_of_le_length (by omega)];exact h j e
 ·rw[List.take_of_length_le (by simp at a |-;omega)];exact hx
