import Derived.Lib.SliceRun
import Derived.Test.YtaahkgkdpnnhhaaGreatRunsP
set_option maxHeartbeats 9999999
set_option maxRecDepth 99999
set_option linter.all false
namespace Go.Proofs.YtaahkgkdpnnhhaaGreat
open Go.RowKit
def frI(zs ys:List Int)(n k:Nat):List Int:=(frs zs ys n k).map fun x=>(x.1:Int)
theorem rE(zs ys:List Int)(n k:Nat):(frI zs ys n k).length≤k:=by
 simp only[frI,List.length_map];exact jZ zs ys n k
theorem aFM(zs ys:List Int)(n k i:Nat)(hn:n≤1048576):-9223372036854775808≤(frI zs ys n k).getD i 0∧(frI zs ys n k).getD i 0≤9223372036854775807:=by
 by_cases hi:i <(frs zs ys n k).length
 ·have:=(frs zs ys n k)[i].2
  simp only[frI,gD,List.getElem?_map,gE hi,Option.map_some,Option.getD_some];omega
 ·simp[frI,List.getElem?_eq_none (Nat.le_of_not_lt hi)]
theorem rT(a a':Option Addr)(c c':Nat)(zs ys:List Int)(w:World)(hv:Nts w (.slice a zs.length c) zs)(hv':Nts w (.slice a' ys.length c') ys)(hl:ys.length=zs.length)(hz:zs.length≤512)(hz8:8≤zs.length):
  Calls Tryz.prog 84 #[.slice a zs.length c,.slice a' ys.length c'] w fun e w'=>∃u,e=.returned u∧dD w.heap.size w' u (frI zs ys zs.length zs.length)∧Bl w w':=by
 obtain⟨_,_,he,hs⟩:=hv.shape;simp only[Value.slice.injEq,true_and]at he;obtain⟨rfl,rfl⟩:=he;obtain⟨b,off,rfl,hcell⟩:=hs (by omega);obtain⟨_,_,he,hs'⟩:=hv'.shape;simp only[Value.slice.injEq,true_and]at he;obtain⟨rfl,rfl⟩:=he;obtain⟨b',off',rfl,hcell'⟩:=hs' (by omega);have hbw:b<w.heap.size:=World.block_lt_of_cell? _ _ (hcell 0 (by omega));have hbw':b'<w.heap.size:=World.block_lt_of_cell? _ _ (hcell' 0 (by omega));have HL:Hid (ys.length=zs.length):=hl;clear hl hs hs' hv hv';go_enter Tryz.func84,Tryz.ntmps84;go_wp2;go_loopw [5,6] (fun u i wr=>∃k:Nat,2≤k∧k≤zs.length∧i=.int .i64 k∧dD w.heap.size wr u (frI zs ys zs.length k)∧Bl w wr) (fun _ i _=>zs.length -(intOf i).toNat)
 case atStart=>exact⟨2,nR _,by omega,rfl,dD.lit _ _ (nR _) _ rfl,iK _ _⟩
 case round=>
  obtain⟨k,hk2,hk,rfl,hown,hb⟩:=hrel;obtain⟨ua,uc,hua⟩:=hown.shape;subst hua;have hsz:=hb.size;have hfl:(frI zs ys zs.length k).length<8589934592:=by have:=rE zs ys zs.length k;omega
  by_cases hlt:k<zs.length
  ·have g1:wr.cell? ⟨b,off+k,none⟩=some (.int .i64 (zs.getD k 0)):=(hb.cell (p:=⟨b,off+k,none⟩) hbw).trans (hcell k hlt)
   have g2:wr.cell? ⟨b',off'+k,none⟩=some (.int .i64 (ys.getD k 0)):=(hb.cell (p:=⟨b',off'+k,none⟩) hbw').trans (hcell' k (by rw[HL.out];exact hlt));have hi:(k:Int) <(zs.length:Int):=by omega
   have hi':(k:Int) <(ys.length:Int):=by rw[HL.out];omega
   have HF:Hid (isF zs ys k=(zs.getD k 0 == 0 && ys.getD k 0 == 0)):=rfl;generalize zs.getD k 0=x at *;generalize ys.getD k 0=y at *;clear hcell hcell';by_cases hx:x=0
   ·subst hx
    by_cases hy:y=0
    ·subst hy
     have HFR:Hid (frI zs ys zs.length (k+1)=frI zs ys zs.length k++[(k:Int)]):=by
      unfold frI;rw[wV zs ys _ k ⟨hk2,hlt⟩ (by rw[HF.out];rfl)];simp[Hid]
     go_wp2_with (first | (at_builtin;refine kD rfl _ _ rfl _ hown rfl rfl hfl hsz ?_;intro v' w1 hown1 hbel1 hsz1 hgr1) | go_in)
     rw[←HFR.out]at hown1;go_roundw
     case rel=>exact⟨k+1,by omega,by omega,by go_num,hown1,hb.trans hbel1⟩
     case measure=>simp[intOf];omega
    ·have hy':(y == 0)=false:=by simpa using hy
     have HFR:Hid (frI zs ys zs.length (k+1)=frI zs ys zs.length k):=by
      unfold frI;rw[sD zs ys _ k fun e=>by have:=e.2.2;rw[HF.out,hy']at this;simp at this];rfl
     clear hy;go_wp2;go_roundw
     case rel=>exact⟨k+1,by omega,by omega,by go_num,by rw[HFR.out];exact hown,hb⟩
     case measure=>simp[intOf];omega
   ·have hx':(x == 0)=false:=by simpa using hx
    have HFR:Hid (frI zs ys zs.length (k+1)=frI zs ys zs.length k):=by
     unfold frI;rw[sD zs ys _ k fun e=>by have:=e.2.2;rw[HF.out,hx']at this;simp at this];rfl
    clear hx;go_wp2;go_roundw
    case rel=>exact⟨k+1,by omega,by omega,by go_num,by rw[HFR.out];exact hown,hb⟩
    case measure=>simp[intOf];omega
  ·obtain rfl:k=zs.length:=by omega
   clear hcell hcell';go_wp2;go_ret;exact⟨_,rfl,hown,hb⟩
section
variable {P : Program} {ops : Array Oper} {Q : Exit → Act → World → Prop} {md : Region.Mode} {S : World → Prop} {L : Nat}
def dep(md:Region.Mode)(ops:Array Oper):Nat→Nat→Nat→Bool
 | 0,_,_=>false
 | f+1,L,i=>((ops[L]?).map fun o=>o.after.toList.any fun e=>Region.binds md e && (e.on == i || dep md ops f e.on i)).getD false
def lH(md:Region.Mode)(ops:Array Oper)(listed:Array Bool):Prop:=
 ∀j o,ops[j]?=some o→listed.getD j true=true→∀e∈o.after,Region.binds md e=true→listed.getD e.on true=true
def wP(md:Region.Mode)(ops:Array Oper)(listed:Array Bool):Bool:=
 (List.range ops.size).all fun j=>!(listed.getD j true) || ((ops[j]?).map fun o=>o.after.toList.all fun e=>!(Region.binds md e) || listed.getD e.on true).getD true
theorem nD{listed:Array Bool}(h:wP md ops listed=true):lH md ops listed:=fun j o ho hj e he hb=>by
 have h1:=List.all_eq_true.1 h j (List.mem_range.2 (Array.getElem?_eq_some_iff.1 ho).1);rw[ho,hj]at h1;simp only[Bool.not_true,Bool.false_or,Option.map_some,Option.getD_some]at h1;have h2:=List.all_eq_true.1 h1 e (by simpa using he);rw[hb]at h2;simpa using h2
theorem aCW{listed:Array Bool}{j k:Nat}(h:listed.getD k true=true):(listed.setIfInBounds j true).getD k true=true:=by
 simp only[Array.getD_eq_getD_getElem?,Array.getElem?_setIfInBounds]at *;split
 ·split<;>simp
 ·exact h
theorem pK{listed:Array Bool}{j:Nat}(h:j∈Region.ready md ops listed):∃o,ops[j]?=some o∧∀e∈o.after,Region.binds md e=true→listed.getD e.on true=true:=by
 obtain⟨_,o,ho,h2⟩:=mem_ready.1 h;refine⟨o,ho,fun e he hb=>?_⟩;have:=h2 e he hb;simp only[Array.getD_eq_getD_getElem?]at this ⊢;cases hx:listed[e.on]? with
 | none=>rfl
 | some b=>rw[hx]at this;simpa using this
theorem lH.step{listed:Array Bool}{j:Nat}(h:lH md ops listed)(hj:j∈Region.ready md ops listed):lH md ops (listed.setIfInBounds j true):=fun k o ho hk e he hb=>by
 by_cases ek:k=j
 ·subst ek
  obtain⟨o',ho',h2⟩:=pK hj;rw[ho]at ho';cases ho';exact aCW (h2 e he hb)
 ·refine aCW (h k o ho ?_ e he hb)
  rwa [getD_set_ne true (Ne.symm ek)]at hk
theorem sM{listed:Array Bool}(h:lH md ops listed){i:Nat}:∀(f L:Nat) (o:Oper),ops[L]?=some o→(∀e∈o.after,Region.binds md e=true→listed.getD e.on true=true)→dep md ops f L i=true→listed.getD i true=true
 | 0,_,_,_,_,hd=>by simp[dep]at hd
 | f+1,L,o,ho,ha,hd=>by
  simp only[dep,ho,Option.map_some,Option.getD_some,List.any_eq_true,Bool.and_eq_true,Bool.or_eq_true,beq_iff_eq]at hd;obtain⟨e,he,hb,hd⟩:=hd;have h1:=ha e (by simpa using he) hb;rcases hd with hd | hd
  ·rw[←hd];exact h1
  ·cases ho':ops[e.on]? with
   | none=>
    cases f with
    | zero=>simp[dep]at hd
    | succ f=>simp[dep,ho']at hd
   | some o'=>exact sM h f e.on o' ho' (h e.on o' ho' h1) hd
theorem uZ{listed:Array Bool}(h:lH md ops listed){f i:Nat}(hd:dep md ops f L i=true)(hi:i∈Region.ready md ops listed)(hL:L∈Region.ready md ops listed):i=L:=by
 obtain⟨o,ho,h2⟩:=pK hL;have h3:=sM h f L o ho h2 hd;have h4:=(mem_ready.1 hi).1;rw[h3]at h4;cases h4
theorem yD{i fd:Nat}(hlast:dep md ops fd L i=true){oi:Oper}{v:Value}(hi:ops[i]?=some oi)(hsel:∀(j:Nat) (o:Oper) cs b,ops[j]?=some o→o.op≠.select cs b)
  (hQ:∀c a w,Q (.panic c) (a.put oi.dst v) w→Q (.panic c) a w) (fuel:Nat):
  ∀(listed:Array Bool) (a:Act) (w:World),lH md ops listed→
   (∀j oj,ops[j]?=some oj→j≠i→listed.getD j true=false→(∀e∈oj.after,Region.binds md e=true→e.on≠i)→oi.apart ops oj=true)→
   i∈Region.ready md ops listed→YieldsIf P ops S oi v a→S w→
   dX P md ops Q S L fuel (listed.setIfInBounds i true) (a.put oi.dst v) w→dX P md ops Q S L (fuel+1) listed a w:=by
 induction fuel with
 | zero=>
  intro listed a w _ _ hr hy hS H;refine⟨fun h=>by simp[h]at hr,fun j hj=>?_⟩;by_cases hji:j=i
  ·subst hji
   exact hy.wpOp hi hS ⟨fun _=>hS,H⟩
  ·have hm:=ready_mono hj hji
   simp[H.1]at hm
 | succ fuel ih=>
  intro listed a w hcl hfree hr hy hS H;refine⟨fun h=>by simp[h]at hr,fun j hj=>?_⟩;by_cases hji:j=i
  ·subst hji
   exact hy.wpOp hi hS ⟨fun _=>hS,H⟩
  ·have hjL:j≠L:=fun e=>hji (e.trans (uZ hcl hlast hr (e▸hj)).symm)
   obtain⟨hjun,oj,hoj,hall⟩:=mem_ready.1 hj;have hnot:∀e∈oj.after,Region.binds md e=true→e.on≠i:=fun e he hb hon=>by
    have h1:=hall e he hb;have h0:=(mem_ready.1 hr).1;rw[hon]at h1;simp only[Array.getD_eq_getD_getElem?]at h0 h1;cases hx:listed[i]? with
    | none=>simp[hx]at h0
    | some b=>simp[hx]at h0 h1;rw[h0]at h1;cases h1
   have h2:=wpOp_putIf hoj (hfree j oj hoj hji hjun hnot) (fun cs b=>hsel i oi cs b hi) (fun cs b=>hsel j oj cs b hoj) hQ hy (H.2 j (ready_mono hj hji));refine wpOp_mono (fun a' w' h3=>?_) h2;obtain⟨hy',hS',hE⟩:=h3;refine⟨hS',ih (listed.setIfInBounds j true) a' w' (hcl.step hj) (fun k ok hk hki hun hno=>hfree k ok hk hki ?_ hno) (ready_mono hr (Ne.symm hji)) hy' (hS' hjL) ?_⟩
   ·by_cases hjk:j=k
    ·exact hjk▸hjun
    ·rwa [getD_set_ne true hjk]at hun
   ·rw[Array.setIfInBounds_comm _ _ hji]
    exact hE
theorem aT{i:Nat}{oi:Oper}(t:Nat)(v:Value){fuel:Nat}{listed:Array Bool}{a:Act}{w:World}(hlast:dep md ops ops.size L i=true)(hcb:wP md ops listed=true)(hi:ops[i]?=some oi)
  (hs:Region.noSelect ops=true) (hf:Region.free md ops listed i=true) (hr:(Region.ready md ops listed).contains i=true)
  (hQ:∀c a w,Q (.panic c) (a.put oi.dst v) w→Q (.panic c) a w) (hg:oi.guard=none) (ht:oi.dst=some t) (hS:S w) (hy:∀w,S w→(execOp a.eval oi).run P w=.ok (.value v) w)
  (h:dX P md ops Q S L fuel (listed.setIfInBounds i true) (a.put (some t) v) w):dX P md ops Q S L (fuel+1) listed a w:=
 yD hlast hi (Region.noSelect_spec hs) hQ fuel listed a w (nD hcb) (Region.free_spec hi hf) (by simpa using hr) (.inl ⟨by simp[Region.wanted,hg],hy⟩) hS (by rw[ht];exact h)
end
end Go.Proofs.YtaahkgkdpnnhhaaGreat
namespace Go.Proofs.YtaahkgkdpnnhhaaGreat
open Go.RowKit
theorem aJV:(Tryz.prog.info? 165).map (fun i=>(i.zero,i.size,i.bytes))=some (some (.agg #[.int .i64 0,.int .i64 0,.int .i64 0]),3,24):=by kernel_rfl
theorem dS{ops:Array Oper}{rest:List Oper}{o:Oper}{a:Act}{Q:Exit→Act→World→Prop}(hgd:o.guard=none)(s x:Operand)
  (ho:o.op=.call {callee:=.builtin .append,args:=#[s,x],argTypes:=#[95,95]})
  {base:Nat} {w0:World} {v:Value} {rs:List (Int×Int×Int)} (p q r:Int) (hown:fC base w0 v rs) (hs:a.eval s=v) (hx:a.eval x=.slice (some ⟨w0.heap.size,0,none⟩) 1 1)
  (hlen:rs.length<1048576) (hb:base≤w0.heap.size)
  (h:∀v' w',fC base w' v' (rs++[(p,q,r)])→Below base w0 w'→w0.heap.size≤w'.heap.size→wpList Tryz.prog ops Q rest (a.put o.dst v') w'):
  wpList Tryz.prog ops Q (o :: rest) a (w0.alloc (.cells #[.int .i64 p,.int .i64 q,.int .i64 r] 165)):=by
 obtain⟨i0,hi,hzz⟩:=Option.map_eq_some_iff.1 aJV;simp only[Prod.mk.injEq]at hzz;obtain⟨hz0,hz1,hz2⟩:=hzz;refine wpList_append_own _ hgd s x 95 ho base 165 i0 _ 3 24 Tryz.underlying95 hi hz0 hz1 hz2 rfl (by decide) v _ _ hs (World.ownsRow.alloc hown _) ⟨w0.heap.size,0,none⟩ 1 1 [.int .i64 p,.int .i64 q,.int .i64 r] hx rfl ?_ ?_ ?_ ?_ ?_ ?_
 ·intro j u hj
  match j,hj with
  | 0,hj=>simp at hj;subst hj;simp[Addr.add,World.cell?_alloc_at]
  | 1,hj=>simp at hj;subst hj;simp[Addr.add,World.cell?_alloc_at]
  | 2,hj=>simp at hj;subst hj;simp[Addr.add,World.cell?_alloc_at]
 ·intro u hu;simp at hu;rcases hu with rfl | rfl | rfl<;>rfl
 ·unfold maxLen;omega
 ·omega
 ·simp;omega
 ·intro v' w' h1 h2 _
  have hb1:Below base w0 w':=((bQ base w0).alloc hb _).grown h2 (by simp;omega) (fun k hk=>(hown.lt k hk).1);refine h v' w' ?_ hb1 (by have:=h2.size;simp at this;omega);unfold fC;rw[kC];simpa [eT] using h1
theorem fC.bump{base:Nat}{w:World}{a:Option Addr}{cap:Nat}{pre:List (Int×Int×Int)}{x y z:Int}(h:fC base w (.slice a (pre.length+1) cap) (pre++[(x,y,z)])):
  ∃g,a=some ⟨g,0,none⟩∧base≤g∧g<w.heap.size∧w.cell? ⟨g,pre.length*3+1,none⟩=some (.int .i64 y)∧w.frozen? ⟨g,pre.length*3+1,none⟩=false∧
   ∀u,fC base (w.setCell ⟨g,pre.length*3+1,none⟩ (.int .i64 u)) (.slice a (pre.length+1) cap) (pre++[(x,u,z)])∧Below base w (w.setCell ⟨g,pre.length*3+1,none⟩ (.int .i64 u)):=by
 have hl:(pre++[(x,y,z)]).length=pre.length+1:=by simp
 have h':w.ownsRow base 165 3 (.slice a (pre.length+1) cap) (pre.length+1) (eT (pre++[(x,y,z)])):=by rw[←hl];rw[←hl]at h;exact h
 have hlt:=h'.lt;rcases h'.2 with⟨_,e⟩ | ⟨g,cap',cur,hv,e1,e2,e3⟩
 ·omega
 ·simp only[Value.slice.injEq,true_and]at hv
  obtain⟨rfl,rfl⟩:=hv;have hget:=vX (pre++[(x,y,z)]) pre.length (by simp);refine⟨g,rfl,e1,(hlt g rfl).2,?_,h'.frozenAt _,fun u=>?_⟩
  ·rw[h'.cellAt _ (by omega),hget.2.1];simp
  ·obtain⟨s1,s2⟩:=h'.stored (pre.length*3+1) (.int .i64 u)
   refine⟨?_,(bQ base w).setCell (p:=⟨g,pre.length*3+1,none⟩) e1 _⟩;have he:(eT (pre++[(x,y,z)])).set (pre.length*3+1) (.int .i64 u)=eT (pre++[(x,u,z)]):=by
    rw[kC,kC,List.set_append_right _ _ (by rw[nW];omega),nW,show pre.length*3+1-pre.length*3=1 by omega];rfl
   rw[he]at s1;unfold fC;rw[show(pre++[(x,u,z)]).length=pre.length+1 by simp];exact s1
theorem belowA'(w:World)(o:Obj):Bl w (w.alloc o):=(bQ _ _).alloc (nR _) _
def bfr(zs:List Int)(k:Nat):Int:=if k=0 then 0 else zs.getD (k-1) 0
theorem yG(zs:List Int)(k:Nat):bfr zs (k+1)=zs.getD k 0:=by simp[bfr]
theorem rns_more'(zs:List Int)(k:Nat)(h:zs.getD k 0≠0)(he:zs.getD k 0=bfr zs k):
  ∃(pre:List (Int×Int×Int)) (a b c:Int),rns zs k=pre++[(a,b,c)]∧rns zs (k+1)=pre++[(a,b+1,c)]∧0≤b∧b≤k:=by
 match k with
 | 0=>exact absurd he h
 | k+1=>
  rw[yG]at he;obtain⟨pre,a,b,c,h1,h2,h3,h4⟩:=aIJ zs k h he.symm;exact⟨pre,a,b,c,h1,h2,h3,by omega⟩
theorem aCH(v:Value)(zs:List Int)(w:World)(hv:Nts w v zs)(hl:zs.length≤512):
  Calls Tryz.prog 155 #[v] w fun e w'=>∃u,e=.returned u∧fC w.heap.size w' u (rns zs zs.length)∧Bl w w':=by
 obtain⟨a,cap,rfl,hc⟩:=hv.shape;go_enter Tryz.func155,Tryz.ntmps155;go_wp2;go_loopw [3,4,9] (fun u bf i wr=>∃k:Nat,k≤zs.length∧i=.int .i64 k∧bf=.int .i64 (bfr zs k)∧fC w.heap.size wr u (rns zs k)∧Bl w wr) (fun _ _ i _=>zs.length -(intOf i).toNat)
 case atStart=>exact⟨0,Nat.zero_le _,rfl,rfl,fC.start _ _,bQ _ _⟩
 case round=>
  obtain⟨k,hk,rfl,rfl,hR,hb⟩:=hrel;have hrl:=tL zs k;obtain⟨ua,uc,hua⟩:=hR.shape;subst hua;have hsz:=hb.size;by_cases hlt:k<zs.length
  ·obtain⟨b,off,rfl,hcell⟩:=hc (by omega)
   have hbw:b<w.heap.size:=World.block_lt_of_cell? _ _ (hcell 0 (by omega));have g1:wr.cell? ⟨b,off+k,none⟩=some (.int .i64 (zs.getD k 0)):=(hb.cell (p:=⟨b,off+k,none⟩) hbw).trans (hcell k hlt);have HB:Hid (bfr zs (k+1)=zs.getD k 0):=yG zs k;clear hc hcell hv;by_cases h0:zs.getD k 0=0
   ·have HR:Hid (rns zs (k+1)=rns zs k):=aHE zs k h0
    rw[h0]at g1 HB;clear h0;go_wp2;go_roundw
    case rel=>exact⟨k+1,by omega,by go_num,by rw[HB.out],by rw[HR.out];exact hR,hb⟩
    case measure=>simp[intOf];omega
   ·have hn0:(zs.getD k 0 == 0)=false:=by simpa using h0
    by_cases he:zs.getD k 0=bfr zs k
    ·obtain⟨pre,x,y,z,e1,e2,hy0,hy1⟩:=rns_more' zs k h0 he
     have HR2:Hid (rns zs (k+1)=pre++[(x,y+1,z)]):=e2;have hln:(rns zs k).length=pre.length+1:=by rw[e1];simp
     rw[hln]at hR hrl;rw[hln];rw[e1]at hR;rw[←he];obtain⟨g,rfl,hg1,hg2,c1,c2,hbump⟩:=hR.bump;have HU:Hid _:=hbump (y+1);have hee:(zs.getD k 0 == zs.getD k 0)=true:=by simp
     have hpl:(pre.length:Int) <((pre.length+1:Nat):Int):=by omega
     generalize zs.getD k 0=zk at *;clear hR hbump he h0 e1 e2 hln;go_wp2;go_roundw
     case rel=>exact⟨k+1,by omega,by go_num,by rw[HB.out],by rw[HR2.out];exact HU.out.1,hb.trans HU.out.2⟩
     case measure=>simp[intOf];omega
    ·have hne:(zs.getD k 0 == bfr zs k)=false:=by simpa using he
     have HR2:Hid (rns zs (k+1)=rns zs k++[((k:Int),1,zs.getD k 0)]):=aJA zs k h0 (by
      unfold bfr at he;by_cases hk0:k=0
      ·exact .inl hk0
      ·rw[if_neg hk0]at he;exact .inr (Ne.symm he))
     have hrl2:(rns zs k).length<1048576:=by omega
     generalize zs.getD k 0=zk at *;generalize bfr zs k=bk at *;clear h0 he;go_wp2_with (first | (at_builtin;refine dS rfl _ _ rfl _ _ _ hR rfl rfl hrl2 hsz ?_;intro v' w1 hR1 hb1 hs1) | go_in);rw[←HR2.out]at hR1;go_roundw
     case rel=>exact⟨k+1,by omega,by go_num,by rw[HB.out],hR1,hb.trans hb1⟩
     case measure=>simp[intOf];omega
  ·have hke:k=zs.length:=by omega
   subst hke;clear hc hv;go_wp2;go_ret;exact⟨_,rfl,hR,hb⟩
theorem aKO{zs:List Int}{i:Nat}(h:¬(zs.getD i 0≠0∧(i=0∨zs.getD (i-1) 0≠zs.getD i 0))):st zs i=false:=by
 rw[←Bool.not_eq_true,jR];exact h
theorem aAQ(v:Value)(zs:List Int)(w:World)(hv:Nts w v zs)(hl:zs.length≤512):
  Calls Tryz.prog 85 #[v] w fun e w'=>∃u,e=.returned u∧fC w.heap.size w' u (rns zs zs.length)∧Bl w w':=by
 obtain⟨a,cap,rfl,hc⟩:=hv.shape;go_enter Tryz.func85,Tryz.ntmps85;go_wp2;go_loopw [3,4] (fun u i wr=>∃k:Nat,k≤zs.length∧i=.int .i64 k∧fC w.heap.size wr u (srn zs zs.length k)∧Bl w wr) (fun _ i _=>zs.length -(intOf i).toNat)
 case atStart=>exact⟨0,Nat.zero_le _,rfl,fC.lit _ _ (nR _) _ rfl,belowA' _ _⟩
 case round=>
  obtain⟨k,hk,rfl,hR,hb⟩:=hrel;have hrl:=aBX zs zs.length k;obtain⟨ua,uc,hua⟩:=hR.shape;subst hua;have hsz:=hb.size;by_cases hlt:k<zs.length
  ·obtain⟨b,off,rfl,hcell⟩:=hc (by omega)
   have hbw:b<w.heap.size:=World.block_lt_of_cell? _ _ (hcell 0 (by omega));have hcw:∀j,j<zs.length→wr.cell? ⟨b,off+j,none⟩=some (.int .i64 (zs.getD j 0)):=fun j hj=>(hb.cell (p:=⟨b,off+j,none⟩) hbw).trans (hcell j hj);have g1:=hcw k hlt;have HCW:Hid (∀j,j<zs.length→wr.cell? ⟨b,off+j,none⟩=some (.int .i64 (zs.getD j 0))):=hcw;obtain⟨zk,HZ⟩:∃z,Hid (zs.getD k 0=z):=⟨_,rfl⟩;rw[HZ.out]at g1;clear hcw;have hi:(k:Int) <(zs.length:Int):=by omega
   clear hc hcell hv;by_cases h0:zs.getD k 0=0
   ·have HR:Hid (srn zs zs.length (k+1)=srn zs zs.length k):=aHQ _ _ _ (aKO fun h=>h.1 h0)
    rw[HZ.out]at h0;subst h0;go_wp2;go_quiet (fail);go_wp2;go_roundw
    case rel=>exact⟨k+1,by omega,by go_num,by rw[HR.out];exact hR,below_drewN hb _⟩
    case measure=>simp[intOf];omega
   ·have hn0:(zk == 0)=false:=by rw[←HZ.out];simpa using h0
    by_cases hgo:0<k∧zs.getD (k-1) 0=zs.getD k 0
    ·have HR:Hid (srn zs zs.length (k+1)=srn zs zs.length k):=aHQ _ _ _ (aKO fun h=>by
      rcases h.2 with e | e
      ·omega
      ·exact e hgo.2)
     have hk0:=hgo.1;have hw1:IntKind.i64.wrap ((k:Int)-1)=((k-1:Nat):Int):=(IntWalk.i64_in _ ⟨by omega,by omega⟩).trans (by omega);have hi1:((k-1:Nat):Int) <(zs.length:Int):=by omega
     have g2:=HCW.out (k-1) (by omega);rw[hgo.2,HZ.out]at g2;have hee:(zk == zk)=true:=by simp
     generalize k-1=k1 at *;clear hgo h0;go_wp2;go_quiet (fail);go_wp2;go_roundw
     case rel=>exact⟨k+1,by omega,by go_num,by rw[HR.out];exact hR,below_drewN hb _⟩
     case measure=>simp[intOf];omega
    ·have hst:st zs k=true:=jR.2 ⟨h0,by
      by_cases hk0:k=0
      ·exact .inl hk0
      ·exact .inr fun e=>hgo ⟨by omega,e⟩⟩
     by_cases hk0:0<k
     ·have hnk:(zs.getD (k-1) 0 == zk)=false:=by rw[←HZ.out];simpa using fun e=>hgo ⟨hk0,e⟩
      have hw1:IntKind.i64.wrap ((k:Int)-1)=((k-1:Nat):Int):=(IntWalk.i64_in _ ⟨by omega,by omega⟩).trans (by omega);have hi1:((k-1:Nat):Int) <(zs.length:Int):=by omega
      have g2:=HCW.out (k-1) (by omega);generalize zs.getD (k-1) 0=zj at *;generalize k-1=k1 at *;have HST:Hid (st zs k=true):=hst;have HRN:Hid (∀n,fC w.heap.size (wr.drewN n) (.slice ua (srn zs zs.length k).length uc) (srn zs zs.length k)):=fun _=>hR;clear hgo h0 hst hR;go_wp2;go_quiet (fail);go_wp2;go_loopw [5,6] (fun n i w2=>∃m:Nat,k+m≤zs.length∧i=.int .i64 ((k+m:Nat):Int)∧n=.int .i64 m∧chQ zs k m=m∧∃q,w2=wr.drewN q) (fun _ i _=>zs.length -(intOf i).toNat)
      case atStart=>exact⟨0,by omega,rfl,rfl,rfl,_,rfl⟩
      case round=>
       obtain⟨m,hm,rfl,rfl,hch,q,rfl⟩:=hrel;by_cases hlt2:k+m<zs.length
       ·have g3:=HCW.out (k+m) hlt2
        by_cases he2:zs.getD (k+m) 0=zs.getD k 0
        ·have hch2:chQ zs k (m+1)=m+1:=by simp only[chQ];rw[if_pos ⟨hch,he2⟩]
         have hee:(zk == zk)=true:=by simp
         rw[he2,HZ.out]at g3;have hi3:((k+m:Nat):Int) <(zs.length:Int):=by omega
         have HM:Hid (k+(m+1)=k+m+1):=rfl;generalize hkm:k+m=km at *;clear hch he2;go_wp2;go_quiet (fail);go_wp2;go_roundw
         case rel=>exact⟨m+1,by omega,by go_num,by go_num,hch2,_,rfl⟩
         case measure=>simp[intOf];omega
        ·have hne2:(zs.getD (k+m) 0 == zk)=false:=by rw[←HZ.out];simpa using he2
         have hch2:chQ zs k (zs.length-k)=m:=by
          have:=wG hch he2 (zs.length-k-m)
          rwa [show m+(zs.length-k-m)=zs.length-k by omega]at this
         have HR3:Hid (srn zs zs.length (k+1)=srn zs zs.length k++[((k:Int),(m:Int),zk)]):=by rw[←hch2,←HZ.out];exact qQ _ _ _ HST.out
         have hi3:((k+m:Nat):Int) <(zs.length:Int):=by omega
         have hrl2:(srn zs zs.length k).length<1048576:=by omega
         generalize hkm:k+m=km at *;generalize zs.getD km 0=zm at *;clear hch he2 hch2;go_wp2;go_quiet (fail);go_wp2_with (first | (at_builtin;refine dS rfl _ _ rfl _ _ _ (HRN.out _) rfl rfl hrl2 hsz ?_;intro v' w1 hR1 hb1 hs1) | go_in);rw[←HR3.out]at hR1;go_roundw
         case rel=>exact⟨k+1,by omega,by go_num,hR1,(below_drewN hb _).trans hb1⟩
         case measure=>simp[intOf];omega
       ·have hch2:chQ zs k (zs.length-k)=m:=by rw[show zs.length-k=m by omega];exact hch
        have HR3:Hid (srn zs zs.length (k+1)=srn zs zs.length k++[((k:Int),(m:Int),zk)]):=by rw[←hch2,←HZ.out];exact qQ _ _ _ HST.out
        have hrl2:(srn zs zs.length k).length<1048576:=by omega
        have hi3:¬((k+m:Nat):Int) <(zs.length:Int):=by omega
        generalize hkm:k+m=km at *;clear hch hch2;go_wp2;go_quiet (fail);go_wp2_with (first | (at_builtin;refine dS rfl _ _ rfl _ _ _ (HRN.out _) rfl rfl hrl2 hsz ?_;intro v' w1 hR1 hb1 hs1) | go_in);rw[←HR3.out]at hR1;go_roundw
        case rel=>exact⟨k+1,by omega,by go_num,hR1,(below_drewN hb _).trans hb1⟩
        case measure=>simp[intOf];omega
     ·have hk0':k=0:=by omega
      have hkz:¬(0:Int) <(k:Int):=by omega
      have HST:Hid (st zs k=true):=hst;have HRN:Hid (∀n,fC w.heap.size (wr.drewN n) (.slice ua (srn zs zs.length k).length uc) (srn zs zs.length k)):=fun _=>hR;clear hgo h0 hst hR hk0';go_wp2;go_quiet (fail);go_wp2;go_loopw [5,6] (fun n i w2=>∃m:Nat,k+m≤zs.length∧i=.int .i64 ((k+m:Nat):Int)∧n=.int .i64 m∧chQ zs k m=m∧∃q,w2=wr.drewN q) (fun _ i _=>zs.length -(intOf i).toNat)
      case atStart=>exact⟨0,by omega,rfl,rfl,rfl,_,rfl⟩
      case round=>
       obtain⟨m,hm,rfl,rfl,hch,q,rfl⟩:=hrel;by_cases hlt2:k+m<zs.length
       ·have g3:=HCW.out (k+m) hlt2
        by_cases he2:zs.getD (k+m) 0=zs.getD k 0
        ·have hch2:chQ zs k (m+1)=m+1:=by simp only[chQ];rw[if_pos ⟨hch,he2⟩]
         have hee:(zk == zk)=true:=by simp
         rw[he2,HZ.out]at g3;have hi3:((k+m:Nat):Int) <(zs.length:Int):=by omega
         have HM:Hid (k+(m+1)=k+m+1):=rfl;generalize hkm:k+m=km at *;clear hch he2;go_wp2;go_quiet (fail);go_wp2;go_roundw
         case rel=>exact⟨m+1,by omega,by go_num,by go_num,hch2,_,rfl⟩
         case measure=>simp[intOf];omega
        ·have hne2:(zs.getD (k+m) 0 == zk)=false:=by rw[←HZ.out];simpa using he2
         have hch2:chQ zs k (zs.length-k)=m:=by
          have:=wG hch he2 (zs.length-k-m)
          rwa [show m+(zs.length-k-m)=zs.length-k by omega]at this
         have HR3:Hid (srn zs zs.length (k+1)=srn zs zs.length k++[((k:Int),(m:Int),zk)]):=by rw[←hch2,←HZ.out];exact qQ _ _ _ HST.out
         have hi3:((k+m:Nat):Int) <(zs.length:Int):=by omega
         have hrl2:(srn zs zs.length k).length<1048576:=by omega
         generalize hkm:k+m=km at *;generalize zs.getD km 0=zm at *;clear hch he2 hch2;go_wp2;go_quiet (fail);go_wp2_with (first | (at_builtin;refine dS rfl _ _ rfl _ _ _ (HRN.out _) rfl rfl hrl2 hsz ?_;intro v' w1 hR1 hb1 hs1) | go_in);rw[←HR3.out]at hR1;go_roundw
         case rel=>exact⟨k+1,by omega,by go_num,hR1,(below_drewN hb _).trans hb1⟩
         case measure=>simp[intOf];omega
       ·have hch2:chQ zs k (zs.length-k)=m:=by rw[show zs.length-k=m by omega];exact hch
        have HR3:Hid (srn zs zs.length (k+1)=srn zs zs.length k++[((k:Int),(m:Int),zk)]):=by rw[←hch2,←HZ.out];exact qQ _ _ _ HST.out
        have hrl2:(srn zs zs.length k).length<1048576:=by omega
        have hi3:¬((k+m:Nat):Int) <(zs.length:Int):=by omega
        generalize hkm:k+m=km at *;clear hch hch2;go_wp2;go_quiet (fail);go_wp2_with (first | (at_builtin;refine dS rfl _ _ rfl _ _ _ (HRN.out _) rfl rfl hrl2 hsz ?_;intro v' w1 hR1 hb1 hs1) | go_in);rw[←HR3.out]at hR1;go_roundw
        case rel=>exact⟨k+1,by omega,by go_num,hR1,(below_drewN hb _).trans hb1⟩
        case measure=>simp[intOf];omega
  ·have hke:k=zs.length:=by omega
   subst hke;rw[aIT]at hR;clear hc hv;go_wp2;go_ret;exact⟨_,rfl,hR,hb⟩
def mU{n:Nat}(zs:List Int)(fr:List (Blk n)):List Int:=fr.foldl (fun l x=>l.set x.1 1) zs
theorem vU{n:Nat}(zs:List Int)(fr:List (Blk n))(x:Blk n):mU zs (fr++[x])=(mU zs fr).set x.1 1:=by simp[mU]
theorem pG{n:Nat}(zs:List Int)(fr:List (Blk n)):(mU zs fr).length=zs.length:=by
 induction fr generalizing zs with
 | nil=>rfl
 | cons x l ih=>simp only[mU,List.foldl_cons]at ih ⊢;rw[ih];simp
def rnO{n:Nat}(zs:List Int)(fr:List (Blk n)):List (Int×Int×Int):=rns (mU zs fr) zs.length
def good{n:Nat}(zs:List Int)(fr:List (Blk n)):Bool:=decide ((rnO zs fr).length≤20*fr.length)
theorem rY{n:Nat}(zs:List Int)(fr:List (Blk n)):(rnO zs fr).length≤zs.length:=tL _ _
def lJ(zs ys:List Int):Option Nat:=(List.range (frs zs ys zs.length zs.length).length).find? fun j=>good zs ((frs zs ys zs.length zs.length).take (j+1))
theorem rL{zs ys:List Int}(h:∀j,j <(frs zs ys zs.length zs.length).length→good zs ((frs zs ys zs.length zs.length).take (j+1))=false):lJ zs ys=none:=
 List.find?_range_eq_none.2 fun i hi=>by rw[h i hi];rfl
theorem rB{zs ys:List Int}{j:Nat}(hj:j <(frs zs ys zs.length zs.length).length)(hg:good zs ((frs zs ys zs.length zs.length).take (j+1))=true)(h:∀i,i<j→good zs ((frs zs ys zs.length zs.length).take (i+1))=false):lJ zs ys=some j:=
 List.find?_range_eq_some.2 ⟨hg,List.mem_range.2 hj,fun i hi=>by rw[h i hi];rfl⟩
def plF(zs ys:List Int):List (Blk zs.length):=if chk [zs,ys]=0 then(match lJ zs ys with
 | none=>[]
 | some j=>(frs zs ys zs.length zs.length).take (j+1))else []
def plP(zs ys:List Int):List Int:=(plF zs ys).map fun x=>(x.1:Int)
def plR(zs ys:List Int):List (Int×Int×Int):=if chk [zs,ys]=0 then(match lJ zs ys with
 | none=>[]
 | some j=>rnO zs ((frs zs ys zs.length zs.length).take (j+1)))else []
def plC(zs ys:List Int):Int:=if chk [zs,ys]=0 then(match lJ zs ys with
 | none=>7
 | some _=>0)else chk [zs,ys]
theorem aLZ{zs ys:List Int}(h:chk [zs,ys]≠0):plP zs ys=[]∧plR zs ys=[]∧plC zs ys=chk [zs,ys]:=by
 simp[plP,plF,plR,plC,h]
theorem xQ{zs ys:List Int}(h:chk [zs,ys]=0)(hk:lJ zs ys=none):plP zs ys=[]∧plR zs ys=[]∧plC zs ys=7:=by
 simp[plP,plF,plR,plC,h,hk]
theorem wJ{zs ys:List Int}{j:Nat}(h:chk [zs,ys]=0)(hk:lJ zs ys=some j):plP zs ys=((frs zs ys zs.length zs.length).take (j+1)).map (fun x=>(x.1:Int))∧plR zs ys=rnO zs ((frs zs ys zs.length zs.length).take (j+1))∧plC zs ys=0:=by
 simp[plP,plF,plR,plC,h,hk]
theorem sP(zs ys:List Int):(plP zs ys).length≤512:=by
 by_cases h:chk [zs,ys]=0
 ·have hl:=(aAP (nC h).2.1).1
  have hf:=jZ zs ys zs.length zs.length;cases hk:lJ zs ys with
  | none=>rw[(xQ h hk).1];simp
  | some j=>rw[(wJ h hk).1];simp;omega
 ·rw[(aLZ h).1];simp
theorem pD{ops:Array Oper}{rest:List Oper}{o:Oper}{a:Act}{w:World}{Q:Exit→Act→World→Prop}(hgd:o.guard=none)(s x:Operand)
  (ho:o.op=.call {callee:=.builtin .append,args:=#[s,x],argTypes:=#[24,24]})
  {base:Nat} {v:Value} {zs ys:List Int} (hown:dD base w v zs) {ad:Addr} {n c:Nat} (hn:ys.length=n) (hsrc:∀i,i<n→w.cell? (ad.add i)=some (.int .i64 (ys.getD i 0))) (hs:a.eval s=v) (hx:a.eval x=.slice (some ad) n c)
  (hlen:zs.length+n<8589934592) (hb:base≤w.heap.size)
  (h:∀v' w',dD base w' v' (zs++ys)→Below base w w'→wpList Tryz.prog ops Q rest (a.put o.dst v') w'):
  wpList Tryz.prog ops Q (o :: rest) a w:=by
 obtain⟨i0,hi,hz0,hz1,hz2⟩:=info_parts tE;refine wpList_append_own _ hgd s x 24 ho base 2 i0 (.int .i64 0) 1 8 Tryz.underlying24 hi hz0 hz1 hz2 rfl (by decide) v _ _ hs hown ad n c (ys.map (Value.int .i64)) hx (by simp[hn]) ?_ ?_ ?_ ?_ hb ?_
 ·intro j u hj
  have hjl:j<ys.length:=by
   by_cases hh:j<ys.length
   ·exact hh
   ·simp[show ys.length≤j by omega]at hj
  rw[hsrc j (by omega)];simp only[List.getElem?_map,gE hjl,Option.map_some,sJ]at hj;rw[←hj];simp[hjl]
 ·intro u hu
  simp only[List.mem_map]at hu;obtain⟨z,_,rfl⟩:=hu;rfl
 ·unfold maxLen;omega
 ·omega
 ·intro v' w' h1 h2 _
  refine h v' w' ?_ ((bQ base w).grown h2 hb (fun k hk=>(hown.lt k hk).1));unfold dD;simpa [hn] using h1
theorem Addr.add_at(b off i:Nat):(({block:=b,off:=off,spot:=none}:Addr).add i)=⟨b,off+i,none⟩:=by
 unfold Addr.add;by_cases h0:i=0<;>simp[h0]
theorem pJ(a:Option Addr)(c:Nat)(zs:List Int)(w:World)(hp:0<zs.length)(hn:zs.length≤1048576)(hv:Nts w (.slice a zs.length c) zs):
  Calls Tryz.prog 148 #[.slice a zs.length c] w fun e w'=>∃u,e=.returned u∧dD w.heap.size w' u zs∧Bl w w':=by
 obtain⟨_,_,he,hs⟩:=hv.shape;simp only[Value.slice.injEq,true_and]at he;obtain⟨rfl,rfl⟩:=he;obtain⟨b,off,rfl,hcell⟩:=hs hp;have hnil:=fun w=>Lib.run_eql_slice_nil (P:=Tryz.prog) w 24 2 (some ⟨b,off,none⟩) zs.length c 0 0 Tryz.underlying24;have hrow:=dD.lit w.heap.size w (nR _) w.heap.size rfl;have hsrc:∀i,i<zs.length→(w.alloc (.cells #[] 2)).cell? ((⟨b,off,none⟩:Addr).add i)=some (.int .i64 (zs.getD i 0)):=fun i hi=>by
  rw[Addr.add_at,World.cell?_alloc_past _ _ _ (World.block_lt_of_cell? _ _ (hcell i (by omega)))];exact hcell i (by omega)
 have hbA:=iK w (.cells #[] 2);have HL:Hid (∀(v':Value) (w':World),dD w.heap.size w' v' ([]++zs)→dD w.heap.size w' v' zs):=fun _ _ h=>h;clear hs hcell hv;go_enter Tryz.func148,Tryz.ntmps148;go_wp2_with (at_builtin;refine pD rfl _ _ rfl hrow rfl hsrc rfl rfl (by simp;omega) (by simp) ?_;intro v' w1 hown1 hbel1);go_ret;exact⟨v',rfl,HL.out _ _ hown1,hbA.trans hbel1⟩
