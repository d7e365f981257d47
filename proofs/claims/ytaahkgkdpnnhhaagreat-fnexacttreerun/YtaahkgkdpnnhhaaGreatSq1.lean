import Derived.Maps.RangeWalk
import Derived.Shelf.SortG.SortNone
import Derived.Test.YtaahkgkdpnnhhaaGreatGw
import Derived.Test.YtaahkgkdpnnhhaaGreatHq35
import Derived.Test.YtaahkgkdpnnhhaaGreatFo40
set_option maxHeartbeats 9999999
set_option maxRecDepth 99999
set_option linter.all false
namespace Go.Proofs.YtaahkgkdpnnhhaaGreat
open Go.RowKit Fo
theorem tN{t:TypeId}{z:Value}{n b:Nat}(h:(Tryz.prog.info? t).map (fun i=>(i.zero,i.size,i.bytes))=some (some z,n,b)):∃i,Tryz.prog.info? t=some i∧i.size=n∧i.bytes=b∧i.zero=some z:=by
 cases e:Tryz.prog.info? t with
 | none=>rw[e]at h;cases h
 | some i=>
  rw[e]at h;simp only[Option.map_some,sJ,Prod.mk.injEq]at h;exact⟨i,rfl,h.2.1,h.2.2,h.1⟩
def y64:Ely Int where
 cell:=fun z=>[.int .i64 z]
 n:=1
 z:=0
 zv:=.int .i64 0
 t:=2
 s:=24
 by':=8
 hn:=fun _=>rfl
 hp:=by omega
 one:=fun a v hv=>by simp only[List.mem_singleton]at hv;subst hv;rfl
 hz:=by kernel_rfl
 us:=Tryz.underlying24
 hb:=by omega
 info:=tN tE
def yT:Ely (Int×Int) where
 cell:=aS
 n:=2
 z:=(0,0)
 zv:=.agg #[.int .i64 0,.int .i64 0]
 t:=77
 s:=55
 by':=16
 hn:=fun _=>rfl
 hp:=by omega
 one:=fun a v hv=>lM [a] v (by simpa using hv)
 hz:=by kernel_rfl
 us:=Tryz.underlying55
 hb:=by omega
 info:=aCN
abbrev NV:=Int×Option Addr×Nat×Nat
def aCX(d:NV):List Value:=[.int .i64 d.1,.slice d.2.1 d.2.2.1 d.2.2.2]
def yN:Ely NV where
 cell:=aCX
 n:=2
 z:=(0,none,0,0)
 zv:=.agg #[.int .i64 0,.slice none 0 0]
 t:=108
 s:=54
 by':=32
 hn:=fun _=>rfl
 hp:=by omega
 one:=fun a v hv=>by simp only[aCX,List.mem_cons,List.not_mem_nil,or_false]at hv;rcases hv with rfl | rfl<;>rfl
 hz:=by kernel_rfl
 us:=Tryz.underlying54
 hb:=by omega
 info:=tN (by kernel_rfl)
theorem aDK(l:List Int):y64.row l=cY l:=by
 unfold Ely.row cY;congr 1;induction l with
 | nil=>rfl
 | cons a l ih=>simp only[List.flatMap_cons,List.map_cons,ih];rfl
theorem jD{w:World}{g:Nat}{l j:List Int}(h:IsC w g (y64.row (l++j)) 2){i:Nat}(hi:i<l.length):w.cell? ⟨g,i,none⟩=some (.int .i64 (l.getD i 0)):=by
 rw[h.cell];have:=y64.at (l++j) (i:=i) (j:=0) (by simp;omega) (by decide);have e:i*y64.n+0=i:=by show i*1+0=i;omega
 rw[e]at this;rw[this,cV,if_pos hi];rfl
theorem nO{w:World}{g:Nat}{l j:List Int}(h:IsC w g (y64.row (l++j)) 2){i:Nat}(hi:i<l.length)(v:Int):IsC (w.setCell ⟨g,i,none⟩ (.int .i64 v)) g (y64.row (l.set i v++j)) 2:=by
 have:=h.set i (.int .i64 v)
 rw[aDK]at this ⊢;have e:(cY (l++j)).setIfInBounds i (.int .i64 v)=cY (l.set i v++j):=by
  unfold cY;rw[List.setIfInBounds_toArray,←List.map_set,List.set_append_left _ _ hi]
 rw[e]at this;exact this
theorem Ely.Sl.nts{w:World}{u:Value}{l:List Int}(h:y64.Sl w u l)(hz:∀i,0≤l.getD i 0∧l.getD i 0≤2000000):Nts w u l:=by
 obtain⟨a,c,rfl⟩:=h.len;refine⟨fun i=>by have:=hz i;omega,_,_,rfl,fun hl=>?_⟩;obtain⟨g,o,c',e,hg,hc⟩:=h.at hl;cases e;refine⟨g,o,rfl,fun i hi=>?_⟩;have:=hc i 0 hi (by decide);have e:o+i*y64.n+0=o+i:=by show o+i*1+0=o+i;omega
 rw[e]at this;exact this
structure Is2(u u':Value)(w w':World):Prop where
 u:u=u'
 w:w=w'
theorem uW(v:Value)(es:List E3)(key:ByteArray)(w:World)(hv:yE.Sl w v es)(hl:es.length≤100):
  Calls Tryz.prog 93 #[v,.string key] w fun r w'=>r=.returned (.int .i64 (nM es key es.length))∧w'=w:=by
 have hpos:0<es.length→_:=fun h=>dZ hv h;obtain⟨va,vc,rfl⟩:=hv.len;clear hv;go_enter Tryz.func93,Tryz.ntmps93;go_wp2;go_loopw [5,6] (fun u k wr=>∃j:Nat,j≤es.length∧k=.int .i64 j∧Is2 u (.int .i64 (nM es key j)) wr w) (fun _ k _=>es.length -(intOf k).toNat)
 case atStart=>exact⟨0,by omega,rfl,⟨rfl,rfl⟩⟩
 case round=>
  obtain⟨j,hj,rfl,HR⟩:=hrel;obtain⟨rfl,rfl⟩:=HR;by_cases hlt:j<es.length
  ·obtain⟨g,o,c,he,hg,hcell⟩:=hpos (by omega)
   cases he
   obtain⟨x0,x1,x2⟩:=hcell wr j rfl hlt;have hji:(j:Int) <(es.length:Int):=by omega
   have HS:Hid (nM es key (j+1)=if kl key (ky es j)=true then nM es key j else j):=rfl;have HK:Hid (kl key (ky es j)=Op.bytesLess key.toList (es.getD j e0).1.toList):=rfl;clear hpos hcell;generalize (es.getD j e0).1=x at *;by_cases hq:Op.bytesLess key.toList x.toList=true
   ·rw[HK.out,if_pos hq]at HS
    have q1:Op.bytesLess x.toList key.toList=false:=fH (a:=key) (b:=x) hq;have q2:(x.toList == key.toList)=false:=by
     rw[beq_eq_false_iff_ne];intro e;rw[e,oX]at hq;cases hq
    clear hq;go_wp2;go_roundw
    case rel=>exact⟨j+1,by omega,by go_num,⟨by rw[HS.out],rfl⟩⟩
    case measure=>simp[intOf];omega
   ·rw[HK.out,if_neg hq]at HS
    have hq':kl key x=false:=Bool.eq_false_iff.2 hq;clear hq;rcases kV hq' with q | q
    ·have q1:Op.bytesLess x.toList key.toList=false:=by rw[q];exact oX _
     have q2:(x.toList == key.toList)=true:=by rw[q];exact beq_self_eq_true _
     clear q hq';go_wp2;go_roundw
     case rel=>exact⟨j+1,by omega,by go_num,⟨by rw[HS.out],rfl⟩⟩
     case measure=>simp[intOf];omega
    ·have q1:Op.bytesLess x.toList key.toList=true:=q
     clear q hq';go_wp2;go_roundw
     case rel=>exact⟨j+1,by omega,by go_num,⟨by rw[HS.out],rfl⟩⟩
     case measure=>simp[intOf];omega
  ·obtain rfl:j=es.length:=by omega
   clear hpos;go_wp2;go_ret;exact⟨rfl,rfl⟩
theorem pT(n:Nat)(hn:n≤512)(w:World):Calls Tryz.prog 53 #[.int .i64 n] w fun e w'=>∃u,e=.returned u∧y64.Own w.heap.size w' u (List.replicate n 0)∧Bl w w':=by
 go_enter Tryz.func53,Tryz.ntmps53
 go_wp2
 go_loopw [3,4] (fun u i wr=>∃k:Nat,k≤n∧i=.int .i64 k∧y64.Own w.heap.size wr u (List.replicate k 0)∧Bl w wr) (fun _ i _=>n -(intOf i).toNat)
 case atStart=>exact⟨0,Nat.zero_le _,rfl,Ely.Own.lit _ _ (nR _) _ rfl,(bQ _ _).alloc (nR _) _⟩
 case round=>
  obtain⟨k,hk,rfl,hown,hb⟩:=hrel;have hsz:=hb.size;by_cases hlt:k<n
  ·have hki:(k:Int) <(n:Int):=by omega
   have HSN:Hid (List.replicate (k+1) (0:Int)=List.replicate k 0++[0]):=List.replicate_succ';have hfl:(List.replicate k (0:Int)).length<1000000:=by simp;omega
   generalize List.replicate k (0:Int)=ys at *;go_wp2_with (first | (at_builtin;refine y64.wpApp1 rfl _ _ rfl hown rfl 0 rfl rfl hfl hsz ?_;intro v' w1 hown1 hbel1 k3) | go_in);rw[←HSN.out]at hown1;go_roundw
   case rel=>exact⟨k+1,by omega,by go_num,hown1,hb.trans hbel1⟩
   case measure=>simp[intOf];omega
  ·obtain rfl:k=n:=by omega
   go_wp2
   go_ret
   exact⟨_,rfl,hown,hb⟩
end Go.Proofs.YtaahkgkdpnnhhaaGreat
namespace Go.Proofs.YtaahkgkdpnnhhaaGreat
open Go.RowKit Go.Shelf Fo
theorem aDA{α:Type}:∀{L K:List α},L.Nodup→(∀x∈L,x∈K)→K.length≤L.length→∀x∈K,x∈L:=by
 classical
 intro L;induction L with
 | nil=>intro K _ _ h x hx;have:K=[]:=List.length_eq_zero_iff.1 (by simpa using h);rw[this]at hx;exact hx
 | cons a L ih=>
  intro K hn hs hl x hx;have ha:a∈K:=hs a (by simp);by_cases e:x=a
  ·simp[e]
  ·have hlen:=List.length_erase_of_mem ha
   have hpos:=List.length_pos_of_mem ha;refine List.mem_cons_of_mem _ (ih (K:=K.erase a) (List.nodup_cons.1 hn).2 (fun y hy=>?_) (by simp at hl;omega) x ((List.mem_erase_of_ne e).2 hx));exact(List.mem_erase_of_ne (fun q=>(List.nodup_cons.1 hn).1 (by rw[←q];exact hy))).2 (hs y (List.mem_cons_of_mem _ hy))
theorem aHL(φ:Nat→Option Nat):∀n,((List.range n).filter fun b=>(φ b).isSome).length=cM n fun b=>if(φ b).isSome then 1 else 0
 | 0=>rfl
 | n+1=>by
  rw[List.range_succ,List.filter_append,lP,aHL φ n];simp only[cM];cases h:(φ n).isSome<;>simp[h]
theorem dR.keys{w:World}{m:Nat}{φ:Nat→Option Nat}(h:dR w m φ):∃D,w.ownsMap Tryz.prog 2 rG m (Maps.size D) D∧(∀b,b<512→Maps.has D (kB b)=(φ b).isSome)∧∀kl,Maps.has D kl=true→∃b,b<512∧kl=kB b∧(φ b).isSome=true:=by
 obtain⟨D,h1,h2,h3,_⟩:=h;refine⟨D,h1,h3,fun kl hk=>?_⟩;obtain⟨es,rfl,hpw,hkl⟩:=h1.entries gF;have hL:(((List.range 512).filter fun b=>(φ b).isSome).map kB).Nodup:=by
  refine List.pairwise_map.2 (List.Pairwise.imp (R:=fun a b=>a≠b) (fun {a b} hne e=>hne (oP e)) ?_);exact List.Pairwise.filter _ List.nodup_range
 have hs:=aDA (L:=((List.range 512).filter fun b=>(φ b).isSome).map kB) (K:=es.map (·.1)) hL (fun x hx=>by
  obtain⟨b,hb,rfl⟩:=List.mem_map.1 hx;obtain⟨hb1,hb2⟩:=List.mem_filter.1 hb;have:=h3 b (by simpa using hb1);rw[hb2,Maps.has_eq,List.any_eq_true]at this;obtain⟨p,hp,hpk⟩:=this;exact List.mem_map.2 ⟨p,hp,WideAt.sameKey_eq hpk⟩) (by
  rw[List.length_map,List.length_map,aHL φ 512];exact Nat.le_of_eq h2)
 rw[Maps.has_eq,List.any_eq_true]at hk;obtain⟨p,hp,hpk⟩:=hk;have:=hs p.1 (List.mem_map.2 ⟨p,hp,rfl⟩);rw[WideAt.sameKey_eq hpk]at this;obtain⟨b,hb,e⟩:=List.mem_map.1 this;obtain⟨hb1,hb2⟩:=List.mem_filter.1 hb;exact⟨b,by simpa using hb1,e.symm,hb2⟩
theorem vJ{H:Type}{P:Program}{k:TypeId}{R:Value→Option (DataW H×List MemPlace)}{w w':World}{b r n:Nat}{D:DataW H}{left:Lit→Bool}{cnt:Nat}(h:w.ranges P k R b r n D left cnt)(hb:w'.heap[b]?=w.heap[b]?)(hr:w'.heap[r]?=w.heap[r]?):w'.ranges P k R b r n D left cnt:=by
 obtain⟨es,cl,si,se,c0,q1,q2,q3,q4,q5,q6⟩:=h;exact⟨es,cl,si,se,c0,hb.trans q1,q2,q3,q4,hr.trans q5,q6⟩
theorem aBA{base:Nat}{w:World}{u:Value}{l:List Int}(h:y64.Own base w u l)(hl:l.length≤1000000):Calls Tryz.prog 156 #[u] w fun e w'=>e=.returned (.tuple #[])∧Frm (fun k=>base≤k) w w':=by
 obtain⟨ag,jk,rfl,hrw,hbs⟩:=h;by_cases h0:l.length=0
 ·rw[h0]
  refine(AnyG.slices_Sort_int_none Tryz.sort64 _ _ w).mono ?_;rintro e w' ⟨rfl,rfl⟩;exact⟨rfl,Frm.refl _ _⟩
 ·obtain⟨g,rfl⟩:∃g,ag=some g:=by
   cases ag with
   | none=>have:=(hrw.nil rfl).1;rw[this]at h0;simp at h0
   | some g=>exact⟨g,rfl⟩
  have ha:=hrw.arr g rfl;have hbg:=hbs g rfl;have hH:Sort.Holds (Value.int .i64) w g 0 l.toArray:=fun j hj=>by
   have hj':j<l.length:=by simpa using hj
   rw[Nat.zero_add];refine⟨?_,ha.frozen j⟩;rw[jD ha hj'];simp[gD,hj',getElem!_pos,hj]
  refine(AnyG.slices_Sort_int Tryz.sort64 g 0 (l.length+jk.length) l w hH ha.lt (by omega)).mono ?_;rintro e w' ⟨rfl,n,os,rfl⟩;refine⟨rfl,rfl,rfl,rfl,by simp,fun k hk hn=>?_⟩;have hkg:k≠g:=fun q=>hn (by rw[q];exact hbg);show((Sort.putRow (Value.int .i64) (Sort.ahead w n) g 0 _).heap++os)[k]?=_
  rw[Array.getElem?_append_left (by simpa using hk)];simp[Sort.putRow,Sort.mapBlock,Array.getElem?_modify,hkg,Ne.symm hkg]
structure DyI(w:World)(m r:Nat)(D:DataW Unit)(φ:Nat→Option Nat)(f:fZ)(v:Value)(wr:World)(left:Lit→Bool)(cnt:Nat)(L:List Nat):Prop where
 rg:wr.ranges Tryz.prog 2 rG m r (Maps.size D) D left cnt
 own:y64.Own (w.heap.size+1) wr v (L.map fun x:Nat=>(x:Int))
 nd:L.Nodup
 mem:∀x,x∈L↔(x<512∧(φ x).isSome=true∧co f x=0∧left (kB x)=false)
 lf:∀kl,left kl=true→Maps.has D kl=true
 bel:Bl w wr
 len:L.length≤512
theorem DyI.step{w wr w':World}{m r:Nat}{D:DataW Unit}{φ:Nat→Option Nat}{f:fZ}{v:Value}{left:Lit→Bool}{cnt cnt':Nat}{L:List Nat}(h:DyI w m r D φ f v wr left cnt L)(hr:r=w.heap.size){b:Nat}(hg:wr.grownBy w' (some r))(hrg:w'.ranges Tryz.prog 2 rG m r (Maps.size D) D (fun z=>left z && !z.sameKey (kB b)) cnt')(hb:b<512)(hφ:(φ b).isSome=true)(hlb:left (kB b)=true):
  (co f b≠0→DyI w m r D φ f v w' (fun z=>left z && !z.sameKey (kB b)) cnt' L)∧(co f b=0→(L++[b]).Nodup∧(∀x,x∈L++[b]↔(x<512∧(φ x).isSome=true∧co f x=0∧(left (kB x) && !(kB x).sameKey (kB b))=false))∧(L++[b]).length≤512)∧y64.Own (w.heap.size+1) w' v (L.map fun x:Nat=>(x:Int))∧Bl w w':=by
 have hk:=gF.key (yM b hb);have hF:Frm (fun k=>k=r) wr w':=⟨hg.os,hg.tape,hg.output,hg.size,fun k hk hn=>hg.block k hk fun e=>hn (Option.some.inj e)⟩;have hO:y64.Own (w.heap.size+1) w' v (L.map fun x:Nat=>(x:Int)):=h.own.frm hF (fun g hg e=>by omega);have hB:Bl w w':=h.bel.trans (hF.below h.bel.size fun g e=>by omega);have hbL:b∉L:=fun q=>by have:=((h.mem b).1 q).2.2.2;rw[hlb]at this;cases this
 have hsame:∀x,(kB x).sameKey (kB b)=decide (x=b):=fun x=>by
  by_cases e:x=b
  ·subst e;rw[WideAt.sameKey_self hk];simp
  ·rw[Maps.sameKey_ne (fun q=>e (oP q))];simp[e]
 refine⟨fun hc=>⟨hrg,hO,h.nd,fun x=>?_,fun kl q=>h.lf kl (by simp at q;exact q.1),hB,h.len⟩,fun hc=>⟨?_,fun x=>?_,?_⟩,hO,hB⟩
 ·rw[h.mem x,hsame x]
  by_cases e:x=b
  ·subst e;simp[hc]
  ·simp[e]
 ·refine List.nodup_append.2 ⟨h.nd,by simp,fun a ha c hc'=>?_⟩
  simp at hc';subst hc';exact fun e=>hbL (e▸ha)
 ·rw[List.mem_append,h.mem x,hsame x]
  by_cases e:x=b
  ·subst e;simp[hc,hb,hφ]
  ·simp[e]
 ·have hn:(L++[b]).Nodup:=by
   refine List.nodup_append.2 ⟨h.nd,by simp,fun a ha c hc'=>?_⟩;simp at hc';subst hc';exact fun e=>hbL (e▸ha)
  have hs:∀x∈L++[b],x∈List.range 512:=fun x hx=>by
   rcases List.mem_append.1 hx with q | q
   ·simpa using ((h.mem x).1 q).1
   ·simp at q;subst q;simpa using hb
  refine Nat.le_of_not_lt fun hlt=>?_;have h3:=aDA hn hs (by simp at hlt ⊢;omega);have h4:=List.nodup_range (n:=512);have h5:(List.range 512).Perm (L++[b]):=(List.perm_ext_iff_of_nodup h4 hn).2 fun x=>⟨h3 x,hs x⟩;have:=h5.length_eq;simp at this hlt;omega
theorem aFT(w:World)(ρ:Nat→Nat)(P:Nat)(A:Adr)(f:fZ)(J:List aR)(h:St w ρ P A f J)(hI:Inv f):
  Calls Tryz.prog 147 #[.pointer (some ⟨P,0,none⟩)] w fun e w'=>∃a c,e=.returned (.slice a (dY f) c)∧Bl w w':=by
 obtain⟨_,_,_,hR,_⟩:=id h;have y3:w.cell? ⟨P,3,none⟩=some (.map (some A.m)):=by rw[hR.hP.cell];rfl
 obtain⟨D,hD1,hD2,hD3⟩:=hR.hm.keys;have HFI:Hid (∀L:List Nat,L.Nodup→(∀x,x∈L↔(x<512∧(A.φ x).isSome=true∧co f x=0))→L.length=dY f):=fun L hn hm=>aEL hn fun x=>by
  rw[hm x];have hliv:(A.φ x).isSome=true↔0<cu f x:=by
   constructor
   ·intro q
    cases e:f.nodes x with
    | none=>rw[hR.no x e]at q;cases q
    | some d=>exact hI.ic.cu_pos e
   ·intro q
    obtain⟨d,hd⟩:=hI.ic.live q;obtain⟨q',hq,_⟩:=hR.nd x d hd;rw[hq];rfl
  rw[hliv];constructor
  ·rintro⟨_,a,b⟩
   obtain⟨d,hd⟩:=hI.ic.live a;exact⟨hI.ic.lt hd,a,b⟩
  ·rintro⟨a,b,c⟩
   exact⟨by have:=hI.ic.n512;omega,b,c⟩
 have HCM:Hid (∀(wr:World) (b:Nat),Bl w wr→b<512→(A.φ b).isSome=true→b<f.com.length∧wr.cell? ⟨A.d,b,none⟩=some (.int .i64 (co f b))):=fun wr b hb hb5 hq=>by
  have hlt:b<f.com.length:=by
   cases e:f.nodes b with
   | none=>rw[hR.no b e]at hq;cases hq
   | some d=>rw[hI.ic.len];exact hI.ic.lt e
  refine⟨hlt,?_⟩;rw[hb.cell (p:=⟨A.d,b,none⟩) hR.hd.lt,hR.hd.cell];simp[jE,co,hlt,List.getElem?_append]
 have HP5:Hid (∀wr:World,Bl w wr→wr.cell? ⟨P,5,none⟩=some (.slice (some ⟨A.d,0,none⟩) f.com.length (f.com.length+A.dj.length))):=fun wr hb=>by
  rw[hb.cell (p:=⟨P,5,none⟩) hR.hP.lt,hR.hP.cell];rfl
 have hmw:=hR.hm.lt;clear hR h;go_enter Tryz.func147,Tryz.ntmps147;go_wp2_with (first | (at_range;refine wpList_range_own _ rfl _ 68 rfl 2 112 gF Tryz.underlying68 rG A.m (Maps.size D) D rfl hD1 ?_;intro w0 hrg0 hg0 hs0) | go_in);go_frame;have hb0:Bl w w0:=⟨hg0.os,hg0.tape,hg0.output,hg0.size,fun k hk=>hg0.block k hk (by simp)⟩;go_loopw [3,4] (fun v _ wr=>∃left cnt L,DyI w A.m w.heap.size D A.φ f v wr left cnt L) (fun _ _ wr=>wr.rangeLeft A.m w.heap.size)
 case atStart=>exact⟨_,_,[],hrg0,Ely.Own.nil _ _,List.nodup_nil,fun x=>⟨fun q=>absurd q (by simp),fun q=>by have:=hD2 x q.1;rw[q.2.2.2,q.2.1]at this;cases this⟩,fun _ q=>q,hb0,by simp⟩
 case round=>
  obtain⟨left,cnt,L,hY⟩:=hrel;have hrg:=hY.rg;go_wp2_with (first | (at_next;refine wpList_next_ranges _ rfl _ rfl 2 gF rG (Value.int .i64) eY (fun key kl hk=>by obtain⟨x,rfl,_⟩:=Maps.keyOf_int_inv Tryz.underlying2 hk;exact⟨x,rfl⟩) (fun v y hv=>by rcases yH (d:=y.1) (ps:=y.2) hv with⟨rfl,_⟩ | ⟨q,rfl,_⟩;exact⟨none,rfl⟩;exact⟨some q,rfl⟩) A.m w.heap.size _ _ _ _ rfl hrg ?_ ?_) | go_in)
  ·intro _ hl0
   have hlen:=HFI.out L hY.nd (fun x=>by rw[hY.mem x,hl0];simp);have hO:=hY.own;have hbel:=hY.bel;obtain⟨ua,uc,hua⟩:=hO.sl.len;have HL:Hid ((L.map fun x:Nat=>(x:Int)).length=dY f):=by rw[List.length_map];exact hlen
   rw[HL.out]at hua;subst hua;have hl5:=hY.len;clear hrg hY hlen;go_wp2_with fail;refine(aBA hO (by rw[List.length_map];omega)).mono ?_;rintro e w2 ⟨rfl,hF2⟩;have hB2:Bl w w2:=hbel.trans (hF2.below hbel.size fun g hg=>by omega);go_wp2;go_ret;exact⟨_,_,rfl,hB2⟩
  ·intro x c kl yd yp w1 cnt1 hkey hlk hv hat hrg1 hlt hg1 hs1 hen
   obtain⟨x',ex,rfl,_⟩:=Maps.keyOf_int_inv Tryz.underlying2 hkey;obtain rfl:x=x':=by simpa using ex
   obtain⟨b,hb5,hbe,hbφ⟩:=hD3 _ (hY.lf _ hlk);obtain rfl:x=(b:Int):=by simpa [kB] using hbe
   obtain⟨k1,k2,k3,k4⟩:=hY.step rfl (b:=b) hg1 hrg1 hb5 hbφ hlk;obtain⟨hbc,x1⟩:=HCM.out w1 b k4 hb5 hbφ;have x2:=HP5.out w1 k4;have hbi:(b:Int) <(f.com.length:Int):=by omega
   have hfl:(L.map fun x:Nat=>(x:Int)).length<1000000:=by have:=hY.len;simp;omega
   have hsz1:w.heap.size+1≤w1.heap.size:=by
    have:=hrg1.lt;omega
   have hml:=hrg.left_eq;have hmw1:A.m<w.heap.size+1:=by omega
   obtain⟨y,hy⟩:=eZ (co f b);rw[hy]at k1 k2 x1;have HY:=aA hY;have HK1:=aA k1;have HK2:=aA k2;clear hY k1 k2 hkey hat hv hbe hrg hD3 hs1;by_cases hc:y=0
   ·obtain⟨n1,n2,n3⟩:=HK2.out hc
    go_wp2_with (first | (at_builtin;refine y64.wpApp1 rfl _ _ rfl k3 rfl (b:Int) rfl rfl hfl hsz1 ?_;intro v' w3 hown1 hbel1 k5) | go_in)
    go_roundw
    case rel=>
     refine⟨_,cnt1,L++[b],vJ hrg1 (hbel1.block _ hmw1) (hbel1.block _ (by omega)),by simpa using hown1,n1,n2,fun kl q=>HY.out.lf kl (by simp at q;exact q.1),k4.trans (hbel1.mono (by omega)),n3⟩
    case measure=>
     rw[hml,(vJ hrg1 (hbel1.block _ hmw1) (hbel1.block _ (by omega))).left_eq];exact hlt
   ·go_wp2
    go_roundw
    case rel=>exact⟨_,cnt1,L,HK1.out hc⟩
    case measure=>rw[hml,hrg1.left_eq];exact hlt
