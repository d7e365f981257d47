import Derived.Maps.RangeWalk
import Derived.Shelf.SortG.SortNone
import Derived.Test.YtaahkgkdpnnhhaaGreatHq36
import Derived.Test.YtaahkgkdpnnhhaaGreatFo33
import Derived.Test.YtaahkgkdpnnhhaaGreatGw
set_option maxHeartbeats 9999999
set_option maxRecDepth 99999
set_option linter.all false
namespace Go.Proofs.YtaahkgkdpnnhhaaGreat
open Go.RowKit Go.Shelf Fo
variable{left:Lit→Bool}{b cnt m r:Nat}{φ:Nat→Option Nat}{w w':World}
theorem aDA{α:Type}:∀{L K:List α},L.Nodup→(∀x∈L,x∈K)→K.length≤L.length→∀x∈K,x∈L:=by
 classical
 intro L;induction L with
 | nil=>intro K _ _ h x hx;have:K=[]:=List.length_eq_zero_iff.1 (by simpa using h);rw[this]at hx;exact hx
 | cons a L ih=>
  intro K hn hs hl x hx;have ha:a∈K:=hs a (by simp);by_cases e:x=a
  ·simp[e]
  ·have ah:=List.length_erase_of_mem ha
   have bz:=List.length_pos_of_mem ha;refine List.mem_cons_of_mem _ (ih (K:=K.erase a) (List.nodup_cons.1 hn).2 (fun y hy=>?_) (by simp at hl;omega) x ((List.mem_erase_of_ne e).2 hx));exact(List.mem_erase_of_ne (fun q=>(List.nodup_cons.1 hn).1 (by rw[←q];exact hy))).2 (hs y (List.mem_cons_of_mem _ hy))
theorem aHH(φ:Nat→Option Nat):∀n,((List.range n).filter fun b=>(φ b).isSome).length=cR n fun b=>if(φ b).isSome then 1 else 0
 | 0=>rfl
 | n+1=>by
  rw[List.range_succ,List.filter_append,lP,aHH φ n];simp only[cR];cases h:(φ n).isSome<;>simp[h]
theorem dS.keys(h:dS w m φ):∃D,w.ownsMap Tryz.prog 2 sX m (Maps.size D) D∧(∀b,b<512→Maps.has D (kB b)=(φ b).isSome)∧∀kl,Maps.has D kl=true→∃b,b<512∧kl=kB b∧(φ b).isSome=true:=by
 obtain⟨D,h1,h2,h3,_⟩:=h;refine⟨D,h1,h3,fun kl hk=>?_⟩;obtain⟨es,rfl,T0,mx⟩:=h1.entries gB;have hL:(((List.range 512).filter fun b=>(φ b).isSome).map kB).Nodup:=by
  refine List.pairwise_map.2 (List.Pairwise.imp (R:=fun a b=>a≠b) (fun {a b} av e=>av (oU e)) ?_);exact List.Pairwise.filter _ List.nodup_range
 have hs:=aDA (L:=((List.range 512).filter fun b=>(φ b).isSome).map kB) (K:=es.map (·.1)) hL (fun x hx=>by
  obtain⟨b,hb,rfl⟩:=List.mem_map.1 hx;obtain⟨ao,ba⟩:=List.mem_filter.1 hb;have:=h3 b (by simpa using ao);rw[ba,Maps.has_eq,List.any_eq_true]at this;obtain⟨p,hp,Ku⟩:=this;exact List.mem_map.2 ⟨p,hp,WideAt.sameKey_eq Ku⟩) (by
  rw[List.length_map,List.length_map,aHH φ 512];exact Nat.le_of_eq h2)
 rw[Maps.has_eq,List.any_eq_true]at hk;obtain⟨p,hp,Ku⟩:=hk;have:=hs p.1 (List.mem_map.2 ⟨p,hp,rfl⟩);rw[WideAt.sameKey_eq Ku]at this;obtain⟨b,hb,e⟩:=List.mem_map.1 this;obtain⟨ao,ba⟩:=List.mem_filter.1 hb;exact⟨b,by simpa using ao,e.symm,ba⟩
theorem vK{H:Type}{P:Program}{k:TypeId}{R:Value→Option (DataW H×List MemPlace)}{n:Nat}{D:DataW H}(h:w.ranges P k R b r n D left cnt)(hb:w'.heap[b]?=w.heap[b]?)(hr:w'.heap[r]?=w.heap[r]?):w'.ranges P k R b r n D left cnt:=by
 obtain⟨es,cl,si,se,c0,q1,q2,q3,q4,q5,q6⟩:=h;exact⟨es,cl,si,se,c0,hb.trans q1,q2,q3,q4,hr.trans q5,q6⟩
theorem aBL{base:Nat}{u:Value}{l:List Int}(h:y64.Own base w u l)(hl:l.length≤1000000):Calls Tryz.prog 156 #[u] w fun e w'=>e=.returned (.tuple #[])∧Frm (fun k=>base≤k) w w':=by
 obtain⟨ag,jk,rfl,fi,lk⟩:=h;by_cases h0:l.length=0
 ·rw[h0]
  refine(AnyG.slices_Sort_int_none Tryz.sort64 _ _ w).mono ?_;rintro e w' ⟨rfl,rfl⟩;exact⟨rfl,Frm.refl _ _⟩
 ·obtain⟨g,rfl⟩:∃g,ag=some g:=by
   cases ag with
   | none=>have:=(fi.nil rfl).1;rw[this]at h0;simp at h0
   | some g=>exact⟨g,rfl⟩
  have ha:=fi.arr g rfl;have QI:=lk g rfl;have hH:Sort.Holds (Value.int .i64) w g 0 l.toArray:=fun j hj=>by
   have xw:j<l.length:=by simpa using hj
   rw[Nat.zero_add];refine⟨?_,ha.frozen j⟩;rw[jE ha xw];simp[gD,xw,getElem!_pos,hj]
  refine(AnyG.slices_Sort_int Tryz.sort64 g 0 (l.length+jk.length) l w hH ha.lt (by omega)).mono ?_;rintro e w' ⟨rfl,n,os,rfl⟩;refine⟨rfl,rfl,rfl,rfl,by simp,fun k hk hn=>?_⟩;have Cy:k≠g:=fun q=>hn (by rw[q];exact QI);show((Sort.putRow (Value.int .i64) (Sort.ahead w n) g 0 _).heap++os)[k]?=_
  rw[Array.getElem?_append_left (by simpa using hk)];simp[Sort.putRow,Sort.mapBlock,Array.getElem?_modify,Cy,Ne.symm Cy]
structure DyI(w:World)(m r:Nat)(D:DataW Unit)(φ:Nat→Option Nat)(f:fZ)(v:Value)(wr:World)(left:Lit→Bool)(cnt:Nat)(L:List Nat):Prop where
 rg:wr.ranges Tryz.prog 2 sX m r (Maps.size D) D left cnt
 own:y64.Own (w.heap.size+1) wr v (L.map fun x:Nat=>(x:Int))
 nd:L.Nodup
 mem:∀x,x∈L↔(x<512∧(φ x).isSome=true∧co f x=0∧left (kB x)=false)
 lf:∀kl,left kl=true→Maps.has D kl=true
 bel:Bl w wr
 len:L.length≤512
theorem DyI.step{wr:World}{D:DataW Unit}{f:fZ}{v:Value}{cnt':Nat}{L:List Nat}(h:DyI w m r D φ f v wr left cnt L)(hr:r=w.heap.size)(hg:wr.grownBy w' (some r))(CX:w'.ranges Tryz.prog 2 sX m r (Maps.size D) D (fun z=>left z && !z.sameKey (kB b)) cnt')(hb:b<512)(hφ:(φ b).isSome=true)(RG:left (kB b)=true):
  (co f b≠0→DyI w m r D φ f v w' (fun z=>left z && !z.sameKey (kB b)) cnt' L)∧(co f b=0→(L++[b]).Nodup∧(∀x,x∈L++[b]↔(x<512∧(φ x).isSome=true∧co f x=0∧(left (kB x) && !(kB x).sameKey (kB b))=false))∧(L++[b]).length≤512)∧y64.Own (w.heap.size+1) w' v (L.map fun x:Nat=>(x:Int))∧Bl w w':=by
 have hk:=gB.key (yU b hb);have hF:Frm (fun k=>k=r) wr w':=⟨hg.os,hg.tape,hg.output,hg.size,fun k hk hn=>hg.block k hk fun e=>hn (Option.some.inj e)⟩;have hO:y64.Own (w.heap.size+1) w' v (L.map fun x:Nat=>(x:Int)):=h.own.frm hF (fun g hg e=>by omega);have hB:Bl w w':=h.bel.trans (hF.below h.bel.size fun g e=>by omega);have CO:b∉L:=fun q=>by have:=((h.mem b).1 q).2.2.2;rw[RG]at this;cases this
 have wi:∀x,(kB x).sameKey (kB b)=decide (x=b):=fun x=>by
  by_cases e:x=b
  ·subst e;rw[WideAt.sameKey_self hk];simp
  ·rw[Maps.sameKey_ne (fun q=>e (oU q))];simp[e]
 refine⟨fun hc=>⟨CX,hO,h.nd,fun x=>?_,fun kl q=>h.lf kl (by simp at q;exact q.1),hB,h.len⟩,fun hc=>⟨?_,fun x=>?_,?_⟩,hO,hB⟩
 ·rw[h.mem x,wi x]
  by_cases e:x=b
  ·subst e;simp[hc]
  ·simp[e]
 ·refine List.nodup_append.2 ⟨h.nd,by simp,fun a ha c bj=>?_⟩
  simp at bj;subst bj;exact fun e=>CO (e▸ha)
 ·rw[List.mem_append,h.mem x,wi x]
  by_cases e:x=b
  ·subst e;simp[hc,hb,hφ]
  ·simp[e]
 ·have hn:(L++[b]).Nodup:=by
   refine List.nodup_append.2 ⟨h.nd,by simp,fun a ha c bj=>?_⟩;simp at bj;subst bj;exact fun e=>CO (e▸ha)
  have hs:∀x∈L++[b],x∈List.range 512:=fun x hx=>by
   rcases List.mem_append.1 hx with q | q
   ·simpa using ((h.mem x).1 q).1
   ·simp at q;subst q;simpa using hb
  refine Nat.le_of_not_lt fun ai=>?_;have h3:=aDA hn hs (by simp at ai ⊢;omega);have h4:=List.nodup_range (n:=512);have h5:(List.range 512).Perm (L++[b]):=(List.perm_ext_iff_of_nodup h4 hn).2 fun x=>⟨h3 x,hs x⟩;have:=h5.length_eq;simp at this ai;omega
theorem aGC(w:World)(ρ:Nat→Nat)(P:Nat)(A:Adr)(f:fZ)(J:List aQ)(h:St w ρ P A f J)(hI:Inv f):
  Calls Tryz.prog 147 #[.pointer (some ⟨P,0,none⟩)] w fun e w'=>∃a c,e=.returned (.slice a (dX f) c)∧Bl w w':=by
 obtain⟨_,_,_,hR,_⟩:=id h;have y3:w.cell? ⟨P,3,none⟩=some (.map (some A.m)):=by rw[hR.hP.cell];rfl
 obtain⟨D,Gf,VI,Sy⟩:=hR.hm.keys;have zh:Hid (∀L:List Nat,L.Nodup→(∀x,x∈L↔(x<512∧(A.φ x).isSome=true∧co f x=0))→L.length=dX f):=fun L hn hm=>aDM hn fun x=>by
  rw[hm x];have RJ:(A.φ x).isSome=true↔0<cu f x:=by
   constructor
   ·intro q
    cases e:f.nodes x with
    | none=>rw[hR.no x e]at q;cases q
    | some d=>exact hI.ic.cu_pos e
   ·intro q
    obtain⟨d,hd⟩:=hI.ic.live q;obtain⟨q',hq,_⟩:=hR.nd x d hd;rw[hq];rfl
  rw[RJ];constructor
  ·rintro⟨_,a,b⟩
   obtain⟨d,hd⟩:=hI.ic.live a;exact⟨hI.ic.lt hd,a,b⟩
  ·rintro⟨a,b,c⟩
   exact⟨by have:=hI.ic.n512;omega,b,c⟩
 have DE:Hid (∀(wr:World) (b:Nat),Bl w wr→b<512→(A.φ b).isSome=true→b<f.com.length∧wr.cell? ⟨A.d,b,none⟩=some (.int .i64 (co f b))):=fun wr b hb et hq=>by
  have ai:b<f.com.length:=by
   cases e:f.nodes b with
   | none=>rw[hR.no b e]at hq;cases hq
   | some d=>rw[hI.ic.len];exact hI.ic.lt e
  refine⟨ai,?_⟩;rw[hb.cell (p:=⟨A.d,b,none⟩) hR.hd.lt,hR.hd.cell];simp[jH,co,ai,List.getElem?_append]
 have Ul:Hid (∀wr:World,Bl w wr→wr.cell? ⟨P,5,none⟩=some (.slice (some ⟨A.d,0,none⟩) f.com.length (f.com.length+A.dj.length))):=fun wr hb=>by
  rw[hb.cell (p:=⟨P,5,none⟩) hR.hP.lt,hR.hP.cell];rfl
 have Tv:=hR.hm.lt;clear hR h;go_enter Tryz.func147,Tryz.ntmps147;go_wp2_with (first | (at_range;refine wpList_range_own _ rfl _ 68 rfl 2 112 gB Tryz.underlying68 sX A.m (Maps.size D) D rfl Gf ?_;intro w0 Ri vh T6) | go_in);go_frame;have ik:Bl w w0:=⟨vh.os,vh.tape,vh.output,vh.size,fun k hk=>vh.block k hk (by simp)⟩;go_loopw [3,4] (fun v _ wr=>∃left cnt L,DyI w A.m w.heap.size D A.φ f v wr left cnt L) (fun _ _ wr=>wr.rangeLeft A.m w.heap.size)
 case atStart=>exact⟨_,_,[],Ri,Ely.Own.nil _ _,List.nodup_nil,fun x=>⟨fun q=>absurd q (by simp),fun q=>by have:=VI x q.1;rw[q.2.2.2,q.2.1]at this;cases this⟩,fun _ q=>q,ik,by simp⟩
 case round=>
  obtain⟨left,cnt,L,hY⟩:=hrel;have CX:=hY.rg;go_wp2_with (first | (at_next;refine wpList_next_ranges _ rfl _ rfl 2 gB sX (Value.int .i64) eQ (fun key kl hk=>by obtain⟨x,rfl,_⟩:=Maps.keyOf_int_inv Tryz.underlying2 hk;exact⟨x,rfl⟩) (fun v y hv=>by rcases zI (d:=y.1) (ps:=y.2) hv with⟨rfl,_⟩ | ⟨q,rfl,_⟩;exact⟨none,rfl⟩;exact⟨some q,rfl⟩) A.m w.heap.size _ _ _ _ rfl CX ?_ ?_) | go_in)
  ·intro _ pf
   have ah:=zh.out L hY.nd (fun x=>by rw[hY.mem x,pf];simp);have hO:=hY.own;have BW:=hY.bel;obtain⟨ua,uc,Ei⟩:=hO.sl.len;have HL:Hid ((L.map fun x:Nat=>(x:Int)).length=dX f):=by rw[List.length_map];exact ah
   rw[HL.out]at Ei;subst Ei;have Gy:=hY.len;clear CX hY ah;go_wp2_with fail;refine(aBL hO (by rw[List.length_map];omega)).mono ?_;rintro e w2 ⟨rfl,du⟩;have cx:Bl w w2:=BW.trans (du.below BW.size fun g hg=>by omega);go_wp2;go_ret;exact⟨_,_,rfl,cx⟩
  ·intro x c kl yd yp w1 cnt1 Mm gk hv jw EZ ai g9 io YB
   obtain⟨x',ex,rfl,_⟩:=Maps.keyOf_int_inv Tryz.underlying2 Mm;obtain rfl:x=x':=by simpa using ex
   obtain⟨b,et,Fm,Ta⟩:=Sy _ (hY.lf _ gk);obtain rfl:x=(b:Int):=by simpa [kB] using Fm
   obtain⟨k1,k2,k3,k4⟩:=hY.step rfl (b:=b) g9 EZ et Ta gk;obtain⟨ms,x1⟩:=DE.out w1 b k4 et Ta;have x2:=Ul.out w1 k4;have CR:(b:Int) <(f.com.length:Int):=by omega
   have tj:(L.map fun x:Nat=>(x:Int)).length<1000000:=by have:=hY.len;simp;omega
   have fl:w.heap.size+1≤w1.heap.size:=by
    have:=EZ.lt;omega
   have CV:=CX.left_eq;have Mu:A.m<w.heap.size+1:=by omega
   obtain⟨y,hy⟩:=eZ (co f b);rw[hy]at k1 k2 x1;have HY:=aA hY;have No:=aA k1;have Uc:=aA k2;clear hY k1 k2 Mm jw hv Fm CX Sy io;by_cases hc:y=0
   ·obtain⟨n1,n2,n3⟩:=Uc.out hc
    go_wp2_with (first | (at_builtin;refine y64.wpApp1 rfl _ _ rfl k3 rfl (b:Int) rfl rfl tj fl ?_;intro v' w3 ee di k5) | go_in)
    go_roundw
    case rel=>
     refine⟨_,cnt1,L++[b],vK EZ (di.block _ Mu) (di.block _ (by omega)),by simpa using ee,n1,n2,fun kl q=>HY.out.lf kl (by simp at q;exact q.1),k4.trans (di.mono (by omega)),n3⟩
    case measure=>
     rw[CV,(vK EZ (di.block _ Mu) (di.block _ (by omega))).left_eq];exact ai
   ·go_wp2
    go_roundw
    case rel=>exact⟨_,cnt1,L,No.out hc⟩
    case measure=>rw[CV,EZ.left_eq];exact ai
