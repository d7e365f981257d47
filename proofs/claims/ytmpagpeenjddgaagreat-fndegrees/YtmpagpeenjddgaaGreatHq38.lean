import Derived.Maps.RangeWalk
import Derived.Shelf.SortG.SortNone
import Derived.Test.YtmpagpeenjddgaaGreatHq32
import Derived.Test.YtmpagpeenjddgaaGreatGw
set_option maxHeartbeats 9999999
set_option maxRecDepth 99999
set_option linter.all false
namespace Go.Proofs.YtmpagpeenjddgaaGreat
open Go.RowKit Go.Shelf Fo
variable{left:Lit->Bool}{b cnt m r:Nat}{φ:Nat->Option Nat}{w w':World}
theorem aEL{α:Type}:∀{L K:List α},L.Nodup->(∀x∈L,x∈K)->K.length<=L.length->∀x∈K,x∈L:=by
 classical
 intro L;induction L with
 | nil=>intro K _ _ h x b;have:K=[]:=List.length_eq_zero_iff.1 (by simpa using h);rw[this]at b;exact b
 | cons a L ih=>
  intro K d f i x b;have c:a∈K:=f a (by simp);by_cases e:x=a
  ·simp[e]
  ·have j:=List.length_erase_of_mem c
   have k:=List.length_pos_of_mem c;refine List.mem_cons_of_mem _ (ih (K:=K.erase a) (List.nodup_cons.1 d).2 (fun y g=>?_) (by simp at i;omega) x ((List.mem_erase_of_ne e).2 b));exact(List.mem_erase_of_ne (fun q=>(List.nodup_cons.1 d).1 (by rw[<-q];exact g))).2 (f y (List.mem_cons_of_mem _ g))
theorem aJU(φ:Nat->Option Nat):∀n,((List.range n).filter fun b=>(φ b).isSome).length=cX n fun b=>if(φ b).isSome then 1 else 0
 | 0=>rfl
 | n+1=>by
  rw[List.range_succ,List.filter_append,lP,aJU φ n];simp only[cX];cases h:(φ n).isSome<;>simp[h]
theorem dV.keys(h:dV w m φ):∃D,w.ownsMap Tryz.prog 2 tO m (Maps.size D) D/\(∀b,b<512->Maps.has D (kB b)=(φ b).isSome)/\∀kl,Maps.has D kl=true->∃b,b<512/\kl=kB b/\(φ b).isSome=true:=by
 obtain⟨D,j,o,k,_⟩:=h;refine⟨D,j,k,fun kl l=>?_⟩;obtain⟨es,rfl,t,u⟩:=j.entries gG;have q:(((List.range 512).filter fun b=>(φ b).isSome).map kB).Nodup:=by
  refine List.pairwise_map.2 (List.Pairwise.imp (R:=fun a b=>a≠b) (fun {a b} n e=>n (pM e)) ?_);exact List.Pairwise.filter _ List.nodup_range
 have r:=aEL (L:=((List.range 512).filter fun b=>(φ b).isSome).map kB) (K:=es.map (·.1)) q (fun x s=>by
  obtain⟨b,g,rfl⟩:=List.mem_map.1 s;obtain⟨d,f⟩:=List.mem_filter.1 g;have:=k b (by simpa using d);rw[f,Maps.has_eq,List.any_eq_true]at this;obtain⟨p,i,c⟩:=this;exact List.mem_map.2 ⟨p,i,WideAt.sameKey_eq c⟩) (by
  rw[List.length_map,List.length_map,aJU φ 512];exact Nat.le_of_eq o)
 rw[Maps.has_eq,List.any_eq_true]at l;obtain⟨p,i,c⟩:=l;have:=r p.1 (List.mem_map.2 ⟨p,i,rfl⟩);rw[WideAt.sameKey_eq c]at this;obtain⟨b,g,e⟩:=List.mem_map.1 this;obtain⟨d,f⟩:=List.mem_filter.1 g;exact⟨b,by simpa using d,e.symm,f⟩
theorem vU{H:Type}{P:Program}{k:TypeId}{R:Value->Option (DataW H×List MemPlace)}{n:Nat}{D:DataW H}(h:w.ranges P k R b r n D left cnt)(c:w'.heap[b]?=w.heap[b]?)(hr:w'.heap[r]?=w.heap[r]?):w'.ranges P k R b r n D left cnt:=by
 obtain⟨es,cl,m,l,a,d,e,f,g,i,j⟩:=h;exact⟨es,cl,m,l,a,c.trans d,e,f,g,hr.trans i,j⟩
theorem aCQ{base:Nat}{u:Value}{l:List Int}(h:y64.Own base w u l)(y:l.length<=1000000):Calls Tryz.prog 139 #[u] w fun e w'=>e=.returned (.tuple #[])/\Frm (fun k=>base<=k) w w':=by
 obtain⟨d,t,rfl,f,v⟩:=h;by_cases a:l.length=0
 ·rw[a]
  refine(AnyG.slices_Sort_int_none Tryz.c7 _ _ w).mono ?_;rintro e w' ⟨rfl,rfl⟩;exact⟨rfl,Frm.refl _ _⟩
 ·obtain⟨g,rfl⟩:∃g,d=some g:=by
   cases d with
   | none=>have:=(f.nil rfl).1;rw[this]at a;simp at a
   | some g=>exact⟨g,rfl⟩
  have b:=f.arr g rfl;have o:=v g rfl;have p:Sort.Holds (Value.int .i64) w g 0 l.toArray:=fun j i=>by
   have m:j<l.length:=by simpa using i
   rw[Nat.zero_add];refine⟨?_,b.frozen j⟩;rw[eD b m];simp[gD,m,getElem!_pos,i]
  refine(AnyG.slices_Sort_int Tryz.c7 g 0 (l.length+t.length) l w p b.lt (by omega)).mono ?_;rintro e w' ⟨rfl,n,x,rfl⟩;refine⟨rfl,rfl,rfl,rfl,by simp,fun k r s=>?_⟩;have c:k≠g:=fun q=>s (by rw[q];exact o);show((Sort.putRow (Value.int .i64) (Sort.ahead w n) g 0 _).heap++x)[k]?=_
  rw[Array.getElem?_append_left (by simpa using r)];simp[Sort.putRow,Sort.mapBlock,Array.getElem?_modify,c,Ne.symm c]
structure DyI(w:World)(m r:Nat)(D:DataW Unit)(φ:Nat->Option Nat)(f:fZ)(v:Value)(wr:World)(left:Lit->Bool)(cnt:Nat)(L:List Nat):Prop where
 rg:wr.ranges Tryz.prog 2 tO m r (Maps.size D) D left cnt
 own:y64.Own (w.heap.size+1) wr v (L.map fun x:Nat=>(x:Int))
 nd:L.Nodup
 mem:∀x,x∈L↔(x<512/\(φ x).isSome=true/\co f x=0/\left (kB x)=false)
 lf:∀kl,left kl=true->Maps.has D kl=true
 bk:Bl w wr
 len:L.length<=512
theorem DyI.step{wr:World}{D:DataW Unit}{f:fZ}{v:Value}{cnt':Nat}{L:List Nat}(h:DyI w m r D φ f v wr left cnt L)(hr:r=w.heap.size)(d:wr.grownBy w' (some r))(E:w'.ranges Tryz.prog 2 tO m r (Maps.size D) D (fun z=>left z && !z.sameKey (kB b)) cnt')(o:b<512)(K:(φ b).isSome=true)(F:left (kB b)=true):
  (co f b≠0->DyI w m r D φ f v w' (fun z=>left z && !z.sameKey (kB b)) cnt' L)/\(co f b=0->(L++[b]).Nodup/\(∀x,x∈L++[b]↔(x<512/\(φ x).isSome=true/\co f x=0/\(left (kB x) && !(kB x).sameKey (kB b))=false))/\(L++[b]).length<=512)/\y64.Own (w.heap.size+1) w' v (L.map fun x:Nat=>(x:Int))/\Bl w w':=by
 have s:=gG.key (zN b o);have hF:Frm (fun k=>k=r) wr w':=⟨d.os,d.tape,d.output,d.size,fun k s j=>d.block k s fun e=>j (Option.some.inj e)⟩;have A:y64.Own (w.heap.size+1) w' v (L.map fun x:Nat=>(x:Int)):=h.own.ae hF (fun g d e=>by omega);have y:Bl w w':=h.bk.trans (hF.below h.bk.size fun g e=>by omega);have t:b∉L:=fun q=>by have:=((h.mem b).1 q).2.2.2;rw[F]at this;cases this
 have C:∀x,(kB x).sameKey (kB b)=decide (x=b):=fun x=>by
  by_cases e:x=b
  ·subst e;rw[WideAt.sameKey_self s];simp
  ·rw[Maps.sameKey_ne (fun q=>e (pM q))];simp[e]
 refine⟨fun p=>⟨E,A,h.nd,fun x=>?_,fun kl q=>h.lf kl (by simp at q;exact q.1),y,h.len⟩,fun p=>⟨?_,fun x=>?_,?_⟩,A,y⟩
 ·rw[h.mem x,C x]
  by_cases e:x=b
  ·subst e;simp[p]
  ·simp[e]
 ·refine List.nodup_append.2 ⟨h.nd,by simp,fun a l c i=>?_⟩
  simp at i;subst i;exact fun e=>t (e▸l)
 ·rw[List.mem_append,h.mem x,C x]
  by_cases e:x=b
  ·subst e;simp[p,o,K]
  ·simp[e]
 ·have j:(L++[b]).Nodup:=by
   refine List.nodup_append.2 ⟨h.nd,by simp,fun a l c i=>?_⟩;simp at i;subst i;exact fun e=>t (e▸l)
  have B:∀x∈L++[b],x∈List.range 512:=fun x J=>by
   rcases List.mem_append.1 J with q | q
   ·simpa using ((h.mem x).1 q).1
   ·simp at q;subst q;simpa using o
  refine Nat.le_of_not_lt fun u=>?_;have G:=aEL j B (by simp at u |-;omega);have H:=List.nodup_range (n:=512);have I:(List.range 512).Perm (L++[b]):=(List.perm_ext_iff_of_nodup H j).2 fun x=>⟨G x,B x⟩;have:=I.length_eq;simp at this u;omega
theorem aIH(w:World)(ρ:Nat->Nat)(P:Nat)(A:Adr)(f:fZ)(J:List aS)(h:St w ρ P A f J)(n:Inv f):
  Calls Tryz.prog 130 #[pT P 0] w fun e w'=>∃a c,e=.returned (.slice a (dZ f) c)/\Bl w w':=by
 obtain⟨_,_,_,j,_⟩:=id h;have y3:w.cell? (aD P 3)=some (.map (some A.m)):=by rw[j.hP.cell];rfl
 obtain⟨D,II,Xs,R⟩:=j.hm.keys;have Ah:Hid (∀L:List Nat,L.Nodup->(∀x,x∈L↔(x<512/\(A.φ x).isSome=true/\co f x=0))->L.length=dZ f):=fun L hn hm=>aFG hn fun x=>by
  rw[hm x];have TG:(A.φ x).isSome=true↔0<cu f x:=by
   constructor
   ·intro q
    cases e:f.n x with
    | none=>rw[j.no x e]at q;cases q
    | some d=>exact n.ic.a7 e
   ·intro q
    obtain⟨d,F⟩:=n.ic.live q;obtain⟨q',B,_⟩:=j.nd x d F;rw[B];rfl
  rw[TG];constructor
  ·rintro⟨_,a,b⟩
   obtain⟨d,F⟩:=n.ic.live a;exact⟨n.ic.lt F,a,b⟩
  ·rintro⟨a,b,c⟩
   exact⟨by have:=n.ic.al;omega,b,c⟩
 have Dy:Hid (∀(wr:World) (b:Nat),Bl w wr->b<512->(A.φ b).isSome=true->b<f.m.length/\wr.cell? (aD A.d b)=some (iV (co f b))):=fun wr b E C B=>by
  have r:b<f.m.length:=by
   cases e:f.n b with
   | none=>rw[j.no b e]at B;cases B
   | some d=>rw[n.ic.len];exact n.ic.lt e
  refine⟨r,?_⟩;rw[E.cell (p:=aD A.d b) j.hd.lt,j.hd.cell];simp[jG,co,r,List.getElem?_append]
 have XO:Hid (∀wr:World,Bl w wr->wr.cell? (aD P 5)=some (sL A.d 0 f.m.length (f.m.length+A.dj.length))):=fun wr E=>by
  rw[E.cell (p:=aD P 5) j.hP.lt,j.hP.cell];rfl
 have WI:=j.hm.lt;clear j h;go_enter Tryz.func130,Tryz.ntmps130;go_wp2_with (first | (at_range;refine wpList_range_own _ rfl _ 64 rfl 2 93 gG Tryz.underlying64 tO A.m (Maps.size D) D rfl II ?_;intro w0 Ti u WT) | go_in);go_frame;have il:Bl w w0:=⟨u.os,u.tape,u.output,u.size,fun k G=>u.block k G (by simp)⟩;go_loopw [3,4] (fun v _ wr=>∃m t L,DyI w A.m w.heap.size D A.φ f v wr m t L) (fun _ _ wr=>wr.rangeLeft A.m w.heap.size)
 case atStart=>exact⟨_,_,[],Ti,Ely.Own.nil _ _,List.nodup_nil,fun x=>⟨fun q=>absurd q (by simp),fun q=>by have:=Xs x q.1;rw[q.2.2.2,q.2.1]at this;cases this⟩,fun _ q=>q,il,by simp⟩
 case round=>
  obtain⟨m,t,L,i⟩:=hrel;have z:=i.rg;go_wp2_with (first | (at_next;refine wpList_next_ranges _ rfl _ rfl 2 gG tO (Value.int .i64) fB (fun key kl G=>by obtain⟨x,rfl,_⟩:=Maps.keyOf_int_inv Tryz.underlying2 G;exact⟨x,rfl⟩) (fun v y H=>by rcases aAD (d:=y.1) (ps:=y.2) H with⟨rfl,_⟩ | ⟨q,rfl,_⟩;exact⟨none,rfl⟩;exact⟨some q,rfl⟩) A.m w.heap.size _ _ _ _ rfl z ?_ ?_) | go_in)
  ·intro _ qd
   have V:=Ah.out L i.nd (fun x=>by rw[i.mem x,qd];simp);have W:=i.own;have Z:=i.bk;obtain⟨ua,uc,O⟩:=W.sl.len;have HL:Hid ((L.map fun x:Nat=>(x:Int)).length=dZ f):=by rw[List.length_map];exact V
   rw[HL.out]at O;subst O;have Ii:=i.len;clear z i V;go_wp2_with fail;refine(aCQ W (by rw[List.length_map];omega)).mono ?_;rintro e w2 ⟨rfl,dz⟩;have c9:Bl w w2:=Z.trans (dz.below Z.size fun g hg=>by omega);go_wp2;go_ret;exact⟨_,_,rfl,c9⟩
  ·intro x c kl yd yp w1 l S Y H kg o r lw d8 hen
   obtain⟨x',ex,rfl,_⟩:=Maps.keyOf_int_inv Tryz.underlying2 S;obtain rfl:x=x':=by simpa using ex
   obtain⟨b,C,Q,U⟩:=R _ (i.lf _ Y);obtain rfl:x=(b:Int):=by simpa [kB] using Q
   obtain⟨I,K,k3,M⟩:=i.step rfl (b:=b) lw o C U Y;obtain⟨mo,x1⟩:=Dy.out w1 b M C U;have x2:=XO.out w1 M;have DC:(b:Int) <(f.m.length:Int):=by omega
   have sj:(L.map fun x:Nat=>(x:Int)).length<1000000:=by have:=i.len;simp;omega
   have fz:w.heap.size+1<=w1.heap.size:=by
    have:=o.lt;omega
   have N:=z.left_eq;have T:A.m<w.heap.size+1:=by omega
   obtain⟨y,hy⟩:=eZ (co f b);rw[hy]at I K x1;have HY:=aA i;have EN:=aA I;have H8:=aA K;clear i I K S kg H Q z R d8;by_cases X:y=0
   ·obtain⟨n1,n2,n3⟩:=H8.out X
    go_wp2_with (first | (at_builtin;refine y64.av rfl _ _ rfl k3 rfl (b:Int) rfl rfl sj fz ?_;intro v' w3 ax s k5) | go_in)
    go_roundw
    case rel=>
     refine⟨_,l,L++[b],vU o (s.block _ T) (s.block _ (by omega)),by simpa using ax,n1,n2,fun kl q=>HY.out.lf kl (by simp at q;exact q.1),M.trans (s.mono (by omega)),n3⟩
    case measure=>
     rw[N,(vU o (s.block _ T) (s.block _ (by omega))).left_eq];exact r
   ·go_wp2
    go_roundw
    case rel=>exact⟨_,l,L,EN.out X⟩
    case measure=>rw[N,o.left_eq];exact r
