import Derived.Deep.AppendSrc
import Derived.Test.YtaahkgkdpnnhhaaGreatFr3
import Derived.Test.YtaahkgkdpnnhhaaGreatFo23
set_option maxHeartbeats 9999999
set_option maxRecDepth 99999
set_option linter.all false
namespace Go.Proofs.YtaahkgkdpnnhhaaGreat
open Go.RowKit
theorem aIB(zs:List Int)(k:Nat)(h:k<zs.length):zs.take (k+1)=zs.take k++[zs.getD k 0]:=by
 rw[List.take_succ_eq_append_getElem h];simp[h]
theorem sY{zs:List Int}(h:∀i,-9223372036854775808≤zs.getD i 0∧zs.getD i 0≤9223372036854775807)(k i:Nat):-9223372036854775808≤(zs.take k).getD i 0∧(zs.take k).getD i 0≤9223372036854775807:=by
 have:=h i
 simp only[gD,List.getElem?_take]at this ⊢;by_cases hi:i<k
 ·rw[if_pos hi];exact this
 ·rw[if_neg hi];simp
theorem aY.take{lo hi:Nat}{w:World}{a:Option Addr}{n cap:Nat}{zs:List Int}(h:aY lo hi w (.slice a n cap) zs)(k:Nat)(hk:k≤n):aY lo hi w (.slice a k cap) (zs.take k):=by
 obtain⟨_,_,he,hs⟩:=h.shape;simp only[Value.slice.injEq]at he;obtain⟨rfl,rfl,rfl⟩:=he;have hl:(zs.take k).length=k:=by simp;omega
 refine⟨sY h.small k,a,cap,by rw[hl],fun hp=>?_⟩;rw[hl]at hp;obtain⟨b,off,ha,h1,h2,h3,hc⟩:=hs (by omega);refine⟨b,off,ha,h1,h2,h3,fun i hi=>?_⟩;rw[hl]at hi;obtain⟨c1,c2⟩:=hc i (by omega);refine⟨?_,c2⟩;rw[c1];simp only[gD,List.getElem?_take,if_pos hi]
theorem aJR(zs ys:List Int)(i:Nat)(h:i <(frs zs ys zs.length zs.length).length):(frI zs ys zs.length zs.length).getD i 0=(((frs zs ys zs.length zs.length)[i]'h).1:Int):=by
 simp[frI,h]
theorem aHW(zs ys:List Int)(i:Nat)(h:i <(frs zs ys zs.length zs.length).length):(frs zs ys zs.length zs.length).take (i+1)=(frs zs ys zs.length zs.length).take i++[(frs zs ys zs.length zs.length)[i]'h]:=List.take_succ_eq_append_getElem h
theorem aDB(zs ys:List Int):(frI zs ys zs.length zs.length).length=(frs zs ys zs.length zs.length).length:=by simp[frI]
theorem aY.stored2{lo hi:Nat}{w:World}{a:Option Addr}{n cap:Nat}{zs:List Int}(h:aY lo hi w (.slice a n cap) zs)(j:Nat)(hj:j<n)(x:Int)(hx:-9223372036854775808≤x∧x≤9223372036854775807):
  ∃b off,a=some ⟨b,off,none⟩∧lo≤b∧b<hi∧w.cell? ⟨b,off+j,none⟩=some (.int .i64 (zs.getD j 0))∧w.frozen? ⟨b,off+j,none⟩=false∧
   aY lo hi (w.setCell ⟨b,off+j,none⟩ (.int .i64 x)) (.slice a n cap) (zs.set j x)∧Upd lo hi w (w.setCell ⟨b,off+j,none⟩ (.int .i64 x)):=by
 have h':=h;obtain⟨_,_,he,hs⟩:=h'.shape;simp only[Value.slice.injEq]at he;obtain⟨rfl,rfl,rfl⟩:=he;obtain⟨b,off,rfl,h1,h2,h3,hc⟩:=hs (by omega);obtain⟨c1,c2⟩:=hc j hj;obtain⟨s1,s2⟩:=h.stored j hj x hx;exact⟨b,off,rfl,h1,h2,c1,c2,s1,s2⟩
theorem aCB(a a':Option Addr)(c c':Nat)(zs ys:List Int)(w:World)(hv:Nts w (.slice a zs.length c) zs)(hv':Nts w (.slice a' ys.length c') ys)(hok:chk [zs,ys]=0):
  Calls Tryz.prog 63 #[.slice a zs.length c,.slice a' ys.length c'] w fun e w'=>∃a0 c0 a1 c1 l0 h0 l1 h1,e=.returned (.tuple #[.slice a0 (plP zs ys).length c0,.slice a1 (plR zs ys).length c1,.int .i64 (plC zs ys)])∧w.heap.size≤l0∧h0≤w'.heap.size∧w.heap.size≤l1∧h1≤w'.heap.size∧(h0≤l1∨h1≤l0)∧aY l0 h0 w' (.slice a0 (plP zs ys).length c0) (plP zs ys)∧aHM l1 h1 w' (.slice a1 (plR zs ys).length c1) (plR zs ys)∧Bl w w':=by
 obtain⟨hl,hc1,hc2⟩:=nC hok;have hz:=(aAP hc1).1;have HL:Hid (ys.length=zs.length):=hl.symm;obtain⟨_,_,he,hs⟩:=hv.shape;simp only[Value.slice.injEq,true_and]at he;obtain⟨rfl,rfl⟩:=he;obtain⟨b,off,rfl,hcell⟩:=hs (by omega);have hbw:b<w.heap.size:=World.block_lt_of_cell? _ _ (hcell 0 (by omega));have hsm:=hv.small;clear hc1 hc2 hl hs;go_enter Tryz.func63,Tryz.ntmps63;go_wp2_with fail;refine(rT _ _ _ _ zs ys _ hv hv' HL.out (by omega) (by omega)).mono ?_;rintro e w1 ⟨u,rfl,hR1,hb1⟩;obtain⟨fa,fc,rfl⟩:=hR1.shape;have hO1:=hR1.own (fun i=>aFM zs ys _ _ i (by omega));have hs1:=hb1.size;have hcap:(frI zs ys zs.length zs.length).length≤fc:=by
  rcases hR1.2 with⟨e,e2⟩ | ⟨gg,cc,cu,e,_,_,h3,_⟩
  ·simp only[Value.slice.injEq]at e;omega
  ·simp only[Value.slice.injEq]at e;omega
 have hfl:=rE zs ys zs.length zs.length;have hfe:=aDB zs ys;rw[hfe]at hfl hcap;rw[hfe]at hO1;rw[hfe];clear hR1 hv hv';obtain⟨m,HM⟩:∃m,Hid ((frs zs ys zs.length zs.length).length=m):=⟨_,rfl⟩;rw[HM.out]at hfl hO1 hfe hcap;rw[HM.out];go_wp2;go_loopw [8] (fun i wr=>∃k:Nat,1≤k∧k≤m+1∧i=.int .i64 k∧aY w.heap.size w1.heap.size wr (.slice fa m fc) (frI zs ys zs.length zs.length)∧Bl w wr∧w1.heap.size≤wr.heap.size∧∀j,j+1<k→good zs ((frs zs ys zs.length zs.length).take (j+1))=false) (fun i _=>m+1 -(intOf i).toNat)
 case atStart=>exact⟨1,nR _,by omega,rfl,hO1,hb1,nR _,fun j hj=>by omega⟩
 case round=>
  obtain⟨k,hk1,hk,rfl,hO,hb,hsw,hng⟩:=hrel;obtain⟨wo,rfl⟩:∃wo,wo=wr:=⟨wr,rfl⟩;clear hO1 hb1;by_cases hlt:k≤m
  ·have hlt':(k:Int)≤(m:Int):=by omega
   have hsz:=hb.size;go_wp2;go_loopw [9,10] (fun u i w2=>∃j:Nat,j≤zs.length∧i=.int .i64 j∧dD wo.heap.size w2 u (zs.take j)∧Bl wo w2) (fun _ i _=>zs.length -(intOf i).toNat)
   case atStart=>exact⟨0,Nat.zero_le _,rfl,dD.lit _ _ (nR _) _ rfl,iK _ _⟩
   case round=>
    obtain⟨j,hj,rfl,hown,hb2⟩:=hrel;obtain⟨w2,rfl⟩:∃w2,w2=wr:=⟨wr,rfl⟩;obtain⟨ua,uc,hua⟩:=hown.shape;have htl:(zs.take j).length=j:=by simp;omega
    rw[htl]at hua;subst hua;have hsz2:=hb2.size;by_cases hlj:j<zs.length
    ·have g1:w2.cell? ⟨b,off+j,none⟩=some (.int .i64 (zs.getD j 0)):=(hb2.cell (p:=⟨b,off+j,none⟩) (by show b<wo.heap.size;omega)).trans ((hb.cell (p:=⟨b,off+j,none⟩) hbw).trans (hcell j hlj))
     have hi:(j:Int) <(zs.length:Int):=by omega
     have HT:Hid (zs.take (j+1)=zs.take j++[zs.getD j 0]):=aIB zs j hlj;have hfl2:(zs.take j).length<8589934592:=by omega
     generalize zs.getD j 0=z at *;clear htl;go_wp2_with (first | (at_builtin;refine kD rfl _ _ rfl _ hown rfl rfl hfl2 hsz2 ?_;intro v' w3 hown1 hbel1 hsz3 hgr1) | go_in);rw[←HT.out]at hown1;go_roundw
     case rel=>exact⟨j+1,by omega,by go_num,hown1,hb2.trans hbel1⟩
     case measure=>simp[intOf];omega
    ·have hje:j=zs.length:=by omega
     have hO2:aY wo.heap.size w2.heap.size w2 (.slice ua zs.length uc) zs:=by
      have h:=hown.own (sY hsm j);rw[hje,List.take_length]at h;exact h
     rw[hje];clear hown htl hlj hj hje;go_wp2;go_loopw [11] (fun i w3=>∃q:Nat,q≤k∧i=.int .i64 q∧aY wo.heap.size w2.heap.size w3 (.slice ua zs.length uc) (mU zs ((frs zs ys zs.length zs.length).take q))∧Upd wo.heap.size w2.heap.size w2 w3) (fun i _=>k -(intOf i).toNat)
     case atStart=>exact⟨0,Nat.zero_le _,rfl,hO2,Upd.refl _ _ _⟩
     case round=>
      obtain⟨q,hq,rfl,hO3,hu3⟩:=hrel;obtain⟨w3,rfl⟩:∃w3,w3=wr:=⟨wr,rfl⟩;have hs3:=hu3.size;by_cases hlq:q<k
      ·have hqm:q <(frs zs ys zs.length zs.length).length:=by rw[HM.out];omega
       have hqm':q<m:=by omega
       obtain⟨x,HX⟩:∃x,Hid ((frs zs ys zs.length zs.length)[q]'hqm=x):=⟨_,rfl⟩;have hx1:=x.2.1;have hx2:=x.2.2;have hF3:aY w.heap.size w1.heap.size w3 (.slice fa m fc) (frI zs ys zs.length zs.length):=(hO.below hb2).upd hu3 (.inl hsw);obtain⟨_,_,he,hs⟩:=hF3.shape;simp only[Value.slice.injEq]at he;obtain⟨rfl,hbad,rfl⟩:=he;obtain⟨fb,fo,rfl,hf1,hf2,hf3,hfc⟩:=hs (by omega);have g1:=(hfc q (by omega)).1;rw[aJR zs ys q hqm,HX.out]at g1;have hst:=hO3.stored2 x.1 hx2 1 (by omega);obtain⟨lb,lo',rfl,hl1,hl2,c1,c2,hst1,hst2⟩:=hst;have HT:Hid (mU zs ((frs zs ys zs.length zs.length).take (q+1))=(mU zs ((frs zs ys zs.length zs.length).take q)).set x.1 1):=by
        rw[aHW zs ys q hqm,vU,HX.out];rfl
       have HS1:Hid _:=hst1;have HS2:Hid _:=hst2;have hi1:(q:Int) <(m:Int):=by omega
       have hi2:(x.1:Int) <(zs.length:Int):=by omega
       have hi3:(q:Int) <(k:Int):=by omega
       generalize (mU zs ((frs zs ys zs.length zs.length).take q)).getD x.1 0=cv at *;generalize x.1=xv at *;clear hbad hs hfc hF3 hst1 hst2 hO3 hO2 HX hqm;go_wp2;go_roundw
       case rel=>exact⟨q+1,by omega,by go_num,by rw[HT.out];exact HS1.out,hu3.trans HS2.out⟩
       case measure=>simp[intOf];omega
      ·have hqk:q=k:=by omega
       subst hqk;have hlen:=pG zs ((frs zs ys zs.length zs.length).take q);have htl:((frs zs ys zs.length zs.length).take q).length=q:=by rw[List.length_take,HM.out];omega
       have hF3:aY w.heap.size w1.heap.size w3 (.slice fa m fc) (frI zs ys zs.length zs.length):=(hO.below hb2).upd hu3 (.inl hsw);have hb3:Bl w w3:=(hb.trans (hb2.mono hb.size)).trans (hu3.below hb.size (by omega));have hb2s:=hb2.size;clear hO hO2 hlq hq;go_wp2_with fail;refine(aAQ _ _ _ hO3.nts (by omega)).mono ?_;rintro e w4 ⟨u,rfl,hR4,hb4⟩;rw[hlen]at hR4;have hR4':fC w3.heap.size w4 u (rnO zs ((frs zs ys zs.length zs.length).take q)):=hR4;obtain⟨ra,rc,rfl⟩:=hR4'.shape;have hF4:=hF3.below hb4;have hb4':=hb3.trans (hb4.mono hb3.size);have hs4:=hb4.size;have hrl:=rY zs ((frs zs ys zs.length zs.length).take q);have HGD:Hid (good zs ((frs zs ys zs.length zs.length).take q)=decide ((rnO zs ((frs zs ys zs.length zs.length).take q)).length≤20*q)):=by unfold good;rw[htl];rfl
       clear hR4 hF3 hO3 hlen hb3 hb4 hb2 hu3;by_cases hgd:(rnO zs ((frs zs ys zs.length zs.length).take q)).length≤20*q
       ·have hk':lJ zs ys=some (q-1):=rB (by rw[HM.out];omega) (by rw[show q-1+1=q by omega,HGD.out];exact decide_eq_true hgd) (fun i hi=>hng i (by omega))
        obtain⟨f1,f2,f3⟩:=wJ hok hk';rw[show q-1+1=q by omega]at f1 f2;have hF5:=hF4.take q (by omega);have hpe:(frI zs ys zs.length zs.length).take q=plP zs ys:=by rw[f1,frI,List.map_take]
        rw[hpe]at hF5;have hpl:(plP zs ys).length=q:=by rw[←hpe,List.length_take,aDB,HM.out];omega
        have hO5:=hR4'.own;have hgd':((rnO zs ((frs zs ys zs.length zs.length).take q)).length:Int)≤20*(q:Int):=by omega
        rw[←f2]at hO5;have HF2:Hid (plR zs ys=rnO zs ((frs zs ys zs.length zs.length).take q)):=f2;have HF3:Hid (plC zs ys=0):=f3;have HPL:Hid ((plP zs ys).length=q):=hpl;have hqf:q≤fc:=by omega
        have hqf':(q:Int)≤(fc:Int):=by omega
        clear hgd hk' f1 f2 f3 hpe hpl hF4 hR4' hng htl;go_wp2;refine bodyPost_ret (v:=.tuple #[.slice fa q fc,.slice ra (rnO zs ((frs zs ys zs.length zs.length).take q)).length rc,.int .i64 0]) (by simp[results,Tryz.results63,go_sem]) rfl ⟨fa,fc,ra,rc,w.heap.size,w1.heap.size,w3.heap.size,w4.heap.size,by rw[HF3.out,HF2.out,HPL.out],nR _,by omega,by omega,nR _,.inl (by omega),by rw[HPL.out];exact hF5,by rw[HF2.out]at hO5 ⊢;exact hO5,hb4'⟩
       ·have hgf:good zs ((frs zs ys zs.length zs.length).take q)=false:=by rw[HGD.out];exact decide_eq_false hgd
        have hgd':¬((rnO zs ((frs zs ys zs.length zs.length).take q)).length:Int)≤20*(q:Int):=by omega
        have HNG:Hid (∀j,j+1<q+1→good zs ((frs zs ys zs.length zs.length).take (j+1))=false):=fun j hj=>by
         by_cases e:j+1<q
         ·exact hng j e
         ·rw[show j+1=q by omega];exact hgf
        clear hgd hgf hR4' hng htl;go_wp2;go_roundw
        case rel=>exact⟨q+1,by omega,by omega,by go_num,hF4,hb4',by omega,HNG.out⟩
        case measure=>simp[intOf];omega
  ·have hkm:k=m+1:=by omega
   have hpn:lJ zs ys=none:=rL fun j hj=>hng j (by rw[HM.out]at hj;omega);obtain⟨f1,f2,f3⟩:=xQ hok hpn;have HF:Hid (plP zs ys=[]∧plR zs ys=[]∧plC zs ys=7):=⟨f1,f2,f3⟩;have hbs:=hb.size;clear hng hpn f1 f2 f3 hO;go_wp2;refine bodyPost_ret (v:=.tuple #[.slice none 0 0,.slice none 0 0,.int .i64 7]) (by simp[results,Tryz.results63,go_sem]) rfl ?_;rw[HF.out.1,HF.out.2.1,HF.out.2.2];exact⟨none,0,none,0,w.heap.size,w.heap.size,w.heap.size,w.heap.size,rfl,nR _,hbs,nR _,hbs,.inl (nR _),aY.empty _ _ _ _ _,aHM.empty _ _ _ _ _,hb⟩
section
variable {P : Program} {ops : Array Oper} {Q : Exit → Act → World → Prop} {md : Region.Mode} {S : World → Prop} {L : Nat}
def fE(P:Program)(md:Region.Mode)(ops:Array Oper)(Q:Exit→Act→World→Prop)(S:World→Prop)(L:Nat):Nat→Array Bool→Act→World→Prop
 | 0,listed,a,w=>Region.ready md ops listed=[]∧Q .normal a w
 | fuel+1,listed,a,w=>
  (Region.ready md ops listed=[]→Q .normal a w)∧
  ∀i∈Region.ready md ops listed,wpOp P ops Q i (fun a' w'=>(i<L→S w')∧fE P md ops Q S L fuel (listed.setIfInBounds i true) a' w') a w
theorem rU:∀(fuel:Nat) (listed:Array Bool) (a:Act) (w:World),fE P md ops Q S L fuel listed a w→wpAny P md ops Q fuel listed a w
 | 0,_,_,_,h=>h
 | fuel+1,_,_,_,h=>⟨h.1,fun i hi=>wpOp_mono (fun a' w' h'=>rU fuel _ a' w' h'.2) (h.2 i hi)⟩
theorem fS{i:Nat}{oi:Oper}{fuel:Nat}{listed:Array Bool}{a:Act}{w:World}(hr:Region.ready md ops listed=[i])(hi:ops[i]?=some oi)(hg:oi.guard=none)
  (h:∀K':Act→World→Prop,(∀a' w',(i<L→S w')→fE P md ops Q S L fuel (listed.setIfInBounds i true) a' w'→K' a' w')→oi.wp P a w K' Q):fE P md ops Q S L (fuel+1) listed a w:=by
 refine⟨fun h0=>by simp[hr]at h0,fun j hj=>?_⟩;rw[hr]at hj;simp only[List.mem_singleton]at hj;subst hj;unfold wpOp;simp only[hi];rw[if_pos (by simp[Region.wanted,hg])];exact .inl (h _ fun _ _ h1 h2=>⟨h1,h2⟩)
theorem pM{listed:Array Bool}{a:Act}{w:World}(hr:Region.ready md ops listed=[])(h:Q .normal a w):∀fuel,fE P md ops Q S L fuel listed a w
 | 0=>⟨hr,h⟩
 | _+1=>⟨fun _=>h,by rw[hr];simp⟩
theorem pU(S:World→Prop)(L:Nat){id:Nat}{a:Act}{w:World}(hm:P.follows .mixedOrders=true)
  (h:fE P .any ops Q S L ops.size (Array.replicate ops.size false) a w.drew):(Code.region id ops true).wp P Q a w:=
 wp_region_any hm (rU _ _ _ _ h)
theorem aCF{i fd:Nat}(hlast:∀k,L≤k→k<ops.size→dep md ops fd k i=true){oi:Oper}{v:Value}(hi:ops[i]?=some oi)(hsel:∀(j:Nat) (o:Oper) cs b,ops[j]?=some o→o.op≠.select cs b)
  (hQ:∀c a w,Q (.panic c) (a.put oi.dst v) w→Q (.panic c) a w) (fuel:Nat):
  ∀(listed:Array Bool) (a:Act) (w:World),lH md ops listed→
   (∀j oj,ops[j]?=some oj→j≠i→listed.getD j true=false→(∀e∈oj.after,Region.binds md e=true→e.on≠i)→oi.apart ops oj=true)→
   i∈Region.ready md ops listed→YieldsIf P ops S oi v a→S w→
   fE P md ops Q S L fuel (listed.setIfInBounds i true) (a.put oi.dst v) w→fE P md ops Q S L (fuel+1) listed a w:=by
 induction fuel with
 | zero=>
  intro listed a w _ _ hr hy hS H;refine⟨fun h=>by simp[h]at hr,fun j hj=>?_⟩;by_cases hji:j=i
  ·subst hji
   exact hy.wpOp hi hS ⟨fun _=>hS,H⟩
  ·have hm:=ready_mono hj hji
   simp[H.1]at hm
 | succ fuel ih=>
  intro listed a w hcl hfree hr hy hS H;refine⟨fun h=>by simp[h]at hr,fun j hj=>?_⟩;by_cases hji:j=i
  ·subst hji
   exact hy.wpOp hi hS ⟨fun _=>hS,H⟩
  ·have hjs:j<ops.size:=by
    obtain⟨_,oj,hoj,_⟩:=mem_ready.1 hj;exact(Array.getElem?_eq_some_iff.1 hoj).1
   have hjL:j<L:=Nat.lt_of_not_le fun e=>hji (uZ hcl (hlast j e hjs) hr hj).symm;obtain⟨hjun,oj,hoj,hall⟩:=mem_ready.1 hj;have hnot:∀e∈oj.after,Region.binds md e=true→e.on≠i:=fun e he hb hon=>by
    have h1:=hall e he hb;have h0:=(mem_ready.1 hr).1;rw[hon]at h1;simp only[Array.getD_eq_getD_getElem?]at h0 h1;cases hx:listed[i]? with
    | none=>simp[hx]at h0
    | some b=>simp[hx]at h0 h1;rw[h0]at h1;cases h1
   have h2:=wpOp_putIf hoj (hfree j oj hoj hji hjun hnot) (fun cs b=>hsel i oi cs b hi) (fun cs b=>hsel j oj cs b hoj) hQ hy (H.2 j (ready_mono hj hji));refine wpOp_mono (fun a' w' h3=>?_) h2;obtain⟨hy',hS',hE⟩:=h3;refine⟨hS',ih (listed.setIfInBounds j true) a' w' (hcl.step hj) (fun k ok hk hki hun hno=>hfree k ok hk hki ?_ hno) (ready_mono hr (Ne.symm hji)) hy' (hS' hjL) ?_⟩
   ·by_cases hjk:j=k
    ·exact hjk▸hjun
    ·rwa [getD_set_ne true hjk]at hun
   ·rw[Array.setIfInBounds_comm _ _ hji]
    exact hE
theorem eC{i:Nat}{oi:Oper}(t:Nat)(v:Value){fuel:Nat}{listed:Array Bool}{a:Act}{w:World}(hlast:((List.range ops.size).all fun k=>decide (k<L) || dep md ops ops.size k i)=true)(hcb:wP md ops listed=true)(hi:ops[i]?=some oi)
  (hs:Region.noSelect ops=true) (hf:Region.free md ops listed i=true) (hr:(Region.ready md ops listed).contains i=true)
  (hQ:∀c a w,Q (.panic c) (a.put oi.dst v) w→Q (.panic c) a w) (hg:oi.guard=none) (ht:oi.dst=some t) (hS:S w) (hy:∀w,S w→(execOp a.eval oi).run P w=.ok (.value v) w)
  (h:fE P md ops Q S L fuel (listed.setIfInBounds i true) (a.put (some t) v) w):fE P md ops Q S L (fuel+1) listed a w:=
 aCF (fd:=ops.size) (fun k hk hs=>by have:=List.all_eq_true.1 hlast k (List.mem_range.2 hs);simp only[Bool.or_eq_true,decide_eq_true_eq]at this;exact this.resolve_left (by omega)) hi (Region.noSelect_spec hs) hQ fuel listed a w (nD hcb) (Region.free_spec hi hf) (by simpa using hr) (.inl ⟨by simp[Region.wanted,hg],hy⟩) hS (by rw[ht];exact h)
theorem yW{i:Nat}(hiL:L≤i){oi:Oper}{v:Value}(hi:ops[i]?=some oi)(hsel:∀(j:Nat) (o:Oper) cs b,ops[j]?=some o→o.op≠.select cs b)
  (hQ:∀c a w,Q (.panic c) (a.put oi.dst v) w→Q (.panic c) a w) (fuel:Nat):
  ∀(listed:Array Bool) (a:Act) (w:World),
   (∀j oj,ops[j]?=some oj→j≠i→listed.getD j true=false→(∀e∈oj.after,Region.binds md e=true→e.on≠i)→oi.apart ops oj=true)→
   i∈Region.ready md ops listed→YieldsIf P ops (fun _=>True) oi v a→
   fE P md ops Q S L fuel (listed.setIfInBounds i true) (a.put oi.dst v) w→fE P md ops Q S L (fuel+1) listed a w:=by
 induction fuel with
 | zero=>
  intro listed a w _ hr hy H;refine⟨fun h=>by simp[h]at hr,fun j hj=>?_⟩;by_cases hji:j=i
  ·subst hji
   exact hy.wpOp hi trivial ⟨fun q=>absurd q (by omega),H⟩
  ·have hm:=ready_mono hj hji
   simp[H.1]at hm
 | succ fuel ih=>
  intro listed a w hfree hr hy H;refine⟨fun h=>by simp[h]at hr,fun j hj=>?_⟩;by_cases hji:j=i
  ·subst hji
   exact hy.wpOp hi trivial ⟨fun q=>absurd q (by omega),H⟩
  ·obtain⟨hjun,oj,hoj,hall⟩:=mem_ready.1 hj
   have hnot:∀e∈oj.after,Region.binds md e=true→e.on≠i:=fun e he hb hon=>by
    have h1:=hall e he hb;have h0:=(mem_ready.1 hr).1;rw[hon]at h1;simp only[Array.getD_eq_getD_getElem?]at h0 h1;cases hx:listed[i]? with
    | none=>simp[hx]at h0
    | some b=>simp[hx]at h0 h1;rw[h0]at h1;cases h1
   have h2:=wpOp_putIf hoj (hfree j oj hoj hji hjun hnot) (fun cs b=>hsel i oi cs b hi) (fun cs b=>hsel j oj cs b hoj) hQ hy (H.2 j (ready_mono hj hji));refine wpOp_mono (fun a' w' h3=>?_) h2;obtain⟨hy',hS',hE⟩:=h3;refine⟨hS',ih (listed.setIfInBounds j true) a' w' (fun k ok hk hki hun hno=>hfree k ok hk hki ?_ hno) (ready_mono hr (Ne.symm hji)) hy' ?_⟩
   ·by_cases hjk:j=k
    ·exact hjk▸hjun
    ·rwa [getD_set_ne true hjk]at hun
   ·rw[Array.setIfInBounds_comm _ _ hji]
    exact hE
theorem qZ{i:Nat}{oi:Oper}(t:Nat)(v:Value){fuel:Nat}{listed:Array Bool}{a:Act}{w:World}(hiL:L≤i)(hi:ops[i]?=some oi)
  (hs:Region.noSelect ops=true) (hf:Region.free md ops listed i=true) (hr:(Region.ready md ops listed).contains i=true)
  (hQ:∀c a w,Q (.panic c) (a.put oi.dst v) w→Q (.panic c) a w) (hg:oi.guard=none) (ht:oi.dst=some t) (hy:∀w,(execOp a.eval oi).run P w=.ok (.value v) w)
  (h:fE P md ops Q S L fuel (listed.setIfInBounds i true) (a.put (some t) v) w):fE P md ops Q S L (fuel+1) listed a w:=
 yW hiL hi (Region.noSelect_spec hs) hQ fuel listed a w (Region.free_spec hi hf) (by simpa using hr) (.inl ⟨by simp[Region.wanted,hg],fun w _=>hy w⟩) (by rw[ht];exact h)
end
end Go.Proofs.YtaahkgkdpnnhhaaGreat
namespace Go.Proofs.YtaahkgkdpnnhhaaGreat
open Go.RowKit Fo
def IsC(w:World)(g:Nat)(cs:Array Value)(t:TypeId):Prop:=w.heap[g]?=some (.cells cs t (0,0))
theorem IsC.lt{w:World}{g:Nat}{cs:Array Value}{t:TypeId}(h:IsC w g cs t):g<w.heap.size:=(Array.getElem?_eq_some_iff.1 h).1
theorem IsC.cell{w:World}{g:Nat}{cs:Array Value}{t:TypeId}(h:IsC w g cs t)(i:Nat):w.cell? ⟨g,i,none⟩=cs[i]?:=by
 unfold IsC at h;simp[World.cell?,h]
theorem IsC.frozen{w:World}{g:Nat}{cs:Array Value}{t:TypeId}(h:IsC w g cs t)(i:Nat):w.frozen? ⟨g,i,none⟩=false:=by
 unfold IsC at h;simp[World.frozen?,h]
theorem IsC.of{w w':World}{g:Nat}{cs:Array Value}{t:TypeId}(h:IsC w g cs t)(he:w'.heap[g]?=w.heap[g]?):IsC w' g cs t:=he.trans h
theorem IsC.drew{w:World}{g:Nat}{cs:Array Value}{t:TypeId}(h:IsC w g cs t):IsC w.drew g cs t:=h
theorem mH(w:World)(o:Obj){g:Nat}(h:g<w.heap.size):(w.alloc o).heap[g]?=w.heap[g]?:=by
 have:=((bQ w.heap.size w).alloc (nR _) o).block g h
 exact this
theorem IsC.alloc{w:World}{g:Nat}{cs:Array Value}{t:TypeId}(h:IsC w g cs t)(o:Obj):IsC (w.alloc o) g cs t:=h.of (mH w o h.lt)
theorem IsC.new(w:World)(cs:Array Value)(t:TypeId):IsC (w.alloc (.cells cs t)) w.heap.size cs t:=by
 show(w.heap.push _)[w.heap.size]?=_
 simp
theorem IsC.c{w:World}{g:Nat}{cs:Array Value}{t:TypeId}(h:IsC w g cs t){k:Nat}{v:Value}(e:cs[k]?=some v):w.cell? ⟨g,k,none⟩=some v:=(h.cell k).trans e
theorem iNw{w w1:World}{cs:Array Value}{t:TypeId}{g:Nat}(h:w.alloc (.cells cs t)=w1)(hg:w.heap.size=g):IsC w1 g cs t:=by rw[←h,←hg];exact IsC.new _ _ _
theorem bB(w:World){p:Addr}(v:Value){g:Nat}(h:g≠p.block):(w.setCell p v).heap[g]?=w.heap[g]?:=by
 simp[World.setCell,Array.getElem?_modify,Ne.symm h]
theorem IsC.set{w:World}{g:Nat}{cs:Array Value}{t:TypeId}(h:IsC w g cs t)(i:Nat)(v:Value):IsC (w.setCell ⟨g,i,none⟩ v) g (cs.setIfInBounds i v) t:=by
 unfold IsC at *;simp[World.setCell,Array.getElem?_modify,h]
theorem IsC.set_ne{w:World}{g:Nat}{cs:Array Value}{t:TypeId}(h:IsC w g cs t){p:Addr}(v:Value)(hp:g≠p.block):IsC (w.setCell p v) g cs t:=h.of (bB w v hp)
def aJ(e:E3):List Value:=[.string e.1,.string e.2.1,.int .i64 e.2.2]
def bX(es:List E3):Array Value:=(es.flatMap aJ).toArray
theorem aG(es:List E3):(es.flatMap aJ).length=es.length*3:=by
 induction es with
 | nil=>rfl
 | cons e es ih=>simp only[List.flatMap_cons,lP,ih,List.length_cons];simp[aJ];omega
theorem fX(es:List E3):(bX es).size=es.length*3:=by unfold bX;rw[List.size_toArray,aG]
theorem lB(es:List E3){i:Nat}(hi:i<es.length):(es.flatMap aJ)[i*3]?=some (.string (es.getD i e0).1)∧(es.flatMap aJ)[i*3+1]?=some (.string (es.getD i e0).2.1)∧(es.flatMap aJ)[i*3+2]?=some (.int .i64 (es.getD i e0).2.2):=by
 induction es generalizing i with
 | nil=>simp at hi
 | cons e es ih=>
  cases i with
  | zero=>simp[aJ]
  | succ i=>
   have:=ih (i:=i) (by simpa using hi)
   have e1:(e :: es).flatMap aJ=aJ e++es.flatMap aJ:=List.flatMap_cons;have l3:(aJ e).length=3:=rfl;rw[e1];rw[List.getElem?_append_right (by rw[l3];omega),List.getElem?_append_right (by rw[l3];omega),List.getElem?_append_right (by rw[l3];omega),l3];rw[show(i+1)*3-3=i*3 by omega,show(i+1)*3+1-3=i*3+1 by omega,show(i+1)*3+2-3=i*3+2 by omega];simpa using this
theorem aGH(es:List E3){i:Nat}(hi:i<es.length):(bX es)[i*3]?=some (.string (es.getD i e0).1)∧(bX es)[i*3+1]?=some (.string (es.getD i e0).2.1)∧(bX es)[i*3+2]?=some (.int .i64 (es.getD i e0).2.2):=by
 simpa [bX] using lB es hi
def adr(a:Option Nat):Option Addr:=a.map fun g=>⟨g,0,none⟩
structure aM(w:World)(q:Nat)(d:Nd)(a:Option Nat)(junk:List E3):Prop where
 box:IsC w q #[.int .i64 d.1,.slice (adr a) d.2.length (d.2.length+junk.length)] 108
 arr:∀g,a=some g→IsC w g (bX (d.2++junk)) 110∧g≠q
 nil:a=none→d.2=[]∧junk=[]
 small:d.2.length+junk.length≤maxLen
theorem oJ(q:Nat)(d:Nd)(a:Option Nat)(junk:List E3)(w:World)(h:aM w q d a junk):
  Calls Tryz.prog 116 #[.pointer (some ⟨q,0,none⟩)] w fun e w'=>e=.returned (.bool (decide (d.2.length=5)))∧w'=w:=by
 have h1:w.cell? ⟨q,1,none⟩=some (.slice (adr a) d.2.length (d.2.length+junk.length)):=by rw[h.box.cell];rfl
 have hs:d.2.length+junk.length≤9223372036854775807:=by have:=h.small;simp[maxLen]at this;omega
 go_enter Tryz.func116,Tryz.ntmps116
 go_wp2
 go_ret
 exact⟨by simp;congr 1;rw[Bool.eq_iff_iff];simp;omega,rfl⟩
def spl{α:Type}(l:List α)(o:Nat)(vs:List α):List α:=l.take o++vs++l.drop (o+vs.length)
theorem aJU{α:Type}(l:List α)(o:Nat):spl l o []=l:=by simp[spl]
theorem aGR{α:Type}(l:List α)(o:Nat)(v:α)(vs:List α)(h:o<l.length):spl (l.set o v) (o+1) vs=spl l o (v :: vs):=by
 unfold spl;have e1:(l.set o v).take (o+1)=l.take o++[v]:=by
  rw[List.set_eq_take_append_cons_drop,if_pos h,List.take_append,List.length_take,List.take_take];rw[show o+1-min o l.length=1 by omega,show min (o+1) o=o by omega];rfl
 have e2:(l.set o v).drop (o+1+vs.length)=l.drop (o+(v :: vs).length):=by
  rw[List.drop_set_of_lt (by omega)];congr 1;simp;omega
 rw[e1,e2];simp
theorem IsC.sets{g:Nat}{t:TypeId}:∀(vs:List Value) {w:World} {cs:List Value} (o:Nat),IsC w g cs.toArray t→o+vs.length≤cs.length→IsC (w.setCells g o vs) g (spl cs o vs).toArray t
 | [],w,cs,o,h,hl=>by rw[aJU];exact h
 | v :: vs,w,cs,o,h,hl=>by
  simp only[List.length_cons]at hl;have h1:IsC (w.setCell ⟨g,o,none⟩ v) g (cs.set o v).toArray t:=by
   have:=h.set o v
   rwa [List.setIfInBounds_toArray]at this
  have:=IsC.sets vs (o+1) h1 (by simp;omega)
  rw[aGR _ _ _ _ (by omega)]at this;exact this
theorem jK{g:Nat}:∀(vs:List Value) (w:World) (o:Nat) {k:Nat},k≠g→(w.setCells g o vs).heap[k]?=w.heap[k]?
 | [],_,_,_,_=>rfl
 | v :: vs,w,o,k,h=>by
  show((w.setCell ⟨g,o,none⟩ v).setCells g (o+1) vs).heap[k]?=_
  rw[jK vs _ _ h,bB _ _ h]
theorem dJ{g:Nat}:∀(vs:List Value) (w:World) (o:Nat),(w.setCells g o vs).heap.size=w.heap.size
 | [],_,_=>rfl
 | v :: vs,w,o=>by
  show((w.setCell ⟨g,o,none⟩ v).setCells g (o+1) vs).heap.size=_
  rw[dJ vs];simp
structure Frm(S:Nat→Prop)(w w':World):Prop where
 os:w'.os=w.os
 tape:w'.tape=w.tape
 output:w'.output=w.output
 size:w.heap.size≤w'.heap.size
 block:∀k,k<w.heap.size→¬S k→w'.heap[k]?=w.heap[k]?
theorem Frm.refl(S:Nat→Prop)(w:World):Frm S w w:=⟨rfl,rfl,rfl,nR _,fun _ _ _=>rfl⟩
theorem Frm.trans{S:Nat→Prop}{a b c:World}(h:Frm S a b)(k:Frm S b c):Frm S a c:=
 ⟨k.os.trans h.os,k.tape.trans h.tape,k.output.trans h.output,lT h.size k.size,fun i hi hn=>(k.block i (lL hi h.size) hn).trans (h.block i hi hn)⟩
theorem Frm.wide{S S':Nat→Prop}{w w':World}(h:Frm S w w')(hs:∀k,k<w.heap.size→S k→S' k):Frm S' w w':=⟨h.os,h.tape,h.output,h.size,fun k hk hn=>h.block k hk fun q=>hn (hs k hk q)⟩
theorem Frm.of_below{S:Nat→Prop}{w w':World}(h:Bl w w'):Frm S w w':=⟨h.os,h.tape,h.output,h.size,fun k hk _=>h.block k hk⟩
theorem Frm.below{S:Nat→Prop}{w w':World}{B:Nat}(h:Frm S w w')(hB:B≤w.heap.size)(hS:∀k,S k→B≤k):Below B w w':=⟨h.os,h.tape,h.output,h.size,fun k hk=>h.block k (by omega) fun q=>by have:=hS k q;omega⟩
theorem gG{g:Nat}:∀(vs:List Value) (w:World) (o:Nat),(w.setCells g o vs).os=w.os∧(w.setCells g o vs).tape=w.tape∧(w.setCells g o vs).output=w.output
 | [],_,_=>⟨rfl,rfl,rfl⟩
 | v :: vs,w,o=>gG vs (w.setCell ⟨g,o,none⟩ v) (o+1)
theorem Frm.sets{S:Nat→Prop}(w:World){g:Nat}(hg:S g)(o:Nat)(vs:List Value):Frm S w (w.setCells g o vs):=
 ⟨(gG vs w o).1,(gG vs w o).2.1,(gG vs w o).2.2,by rw[dJ];exact nR _,fun k _ hn=>jK vs w o fun e=>hn (e▸hg)⟩
theorem Frm.set{S:Nat→Prop}(w:World){p:Addr}(hp:S p.block)(u:Value):Frm S w (w.setCell p u):=
 ⟨rfl,rfl,rfl,by simp,fun k _ hn=>bB w u fun e=>hn (e▸hp)⟩
theorem Frm.alloc(S:Nat→Prop)(w:World)(o:Obj):Frm S w (w.alloc o):=Frm.of_below ((bQ w.heap.size w).alloc (nR _) o)
theorem Frm.drew(S:Nat→Prop)(w:World):Frm S w w.drew:=⟨rfl,rfl,rfl,nR _,fun _ _ _=>rfl⟩
theorem IsC.frm{S:Nat→Prop}{w w':World}{g:Nat}{cs:Array Value}{t:TypeId}(h:IsC w g cs t)(k:Frm S w w')(hn:¬S g):IsC w' g cs t:=h.of (k.block g h.lt hn)
theorem aLA:(Tryz.prog.info? 110).map (fun i=>(i.zero,i.size,i.bytes))=some (some (.agg #[.string .empty,.string .empty,.int .i64 0]),3,40):=by kernel_rfl
theorem pV:∃i,Tryz.prog.info? 110=some i∧i.size=3∧i.bytes=40∧i.zero=some (.agg #[.string .empty,.string .empty,.int .i64 0]):=by
 have h:=aLA;cases e:Tryz.prog.info? 110 with
 | none=>rw[e]at h;cases h
 | some i=>
  rw[e]at h;simp only[Option.map_some,sJ,Prod.mk.injEq]at h;exact⟨i,rfl,h.2.1,h.2.2,h.1⟩
theorem lS(w:World)(ty:TypeId)(b o dLen dCap:Nat)(a:Addr)(sLen sCap:Nat)(cs:List Value)(hn:cs.length=Nat.min sLen dLen*3)
  (hsrc:∀j v,cs[j]?=some v→w.cell? (a.add j)=some v) (hc:∀j,j<cs.length→(w.cell? ⟨b,o+j,none⟩).isSome=true) (hf:∀j,j<cs.length→w.frozen? ⟨b,o+j,none⟩=false) (h1:∀v∈cs,v.oneCell'=true):
  (Builtin.copy_ #[106,106] ty #[.slice (some ⟨b,o,none⟩) dLen dCap,.slice (some a) sLen sCap]).run Tryz.prog w=.ok (goInt (Nat.min sLen dLen)) (w.setCells b o cs):=by
 have hl:=run_loadCells_list (P:=Tryz.prog) w a cs hsrc;have hst:=run_storeCells_cells (P:=Tryz.prog) b o cs 0 w (by simpa using hc) (by simpa using hf) h1;obtain⟨i,hi,h3,_,_⟩:=pV;simp[Builtin.copy_,run_underlying Tryz.underlying106,Builtin.lenOf,Builtin.firstCells,sizeOf,typeInfo,hi,h3,←hn,hl,hst]
theorem eL(es:List E3):∀v∈es.flatMap aJ,v.oneCell'=true:=fun v hv=>by
 obtain⟨e,_,he⟩:=List.mem_flatMap.1 hv;simp only[aJ,List.mem_cons,List.not_mem_nil,or_false]at he;rcases he with rfl | rfl | rfl<;>rfl
theorem gI(xs ys:List E3)(i:Nat):spl (xs.flatMap aJ) (i*3) (ys.flatMap aJ)=(spl xs i ys).flatMap aJ:=by
 have tk:∀(l:List E3) (n:Nat),(l.flatMap aJ).take (n*3)=(l.take n).flatMap aJ:=by
  intro l;induction l with
  | nil=>intro n;simp
  | cons e l ih=>
   intro n;cases n with
   | zero=>simp
   | succ n=>
    have l3:(aJ e).length=3:=rfl;rw[List.flatMap_cons,List.take_succ_cons,List.flatMap_cons,List.take_append,l3,List.take_of_length_le (by rw[l3];omega),show(n+1)*3-3=n*3 by omega,ih]
 have dr:∀(l:List E3) (n:Nat),(l.flatMap aJ).drop (n*3)=(l.drop n).flatMap aJ:=by
  intro l;induction l with
  | nil=>intro n;simp
  | cons e l ih=>
   intro n;cases n with
   | zero=>simp
   | succ n=>
    have l3:(aJ e).length=3:=rfl;rw[List.flatMap_cons,List.drop_succ_cons,List.drop_append,l3,List.drop_of_length_le (by rw[l3];omega),show(n+1)*3-3=n*3 by omega,ih,List.nil_append]
 unfold spl;rw[tk,aG,←Nat.add_mul,dr,List.flatMap_append,List.flatMap_append]
