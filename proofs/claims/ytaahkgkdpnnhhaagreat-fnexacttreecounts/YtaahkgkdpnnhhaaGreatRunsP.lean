import Derived.Shelf.SortG.Plain
import Derived.Deep.RegionWith
import Derived.RangeFuncNested
import Derived.RangeFuncBound
import Derived.RangeFuncCalls
import Derived.RangeFuncLeaves
import Derived.Shelf.Abstract
import Derived.Shelf.RegionOpen
import Derived.OwnWalkIn
import Derived.TacticsInMore
import Derived.LoopNIn
import Derived.LoopIn
import Derived.Test.YtaahkgkdpnnhhaaGreatInv
set_option maxHeartbeats 9999999
set_option maxRecDepth 99999
set_option linter.all false
namespace Go.Proofs.YtaahkgkdpnnhhaaGreat
def st(zs:List Int)(i:Nat):Bool:=zs.getD i 0 != 0 && (i == 0 || zs.getD (i-1) 0 != zs.getD i 0)
def chQ(zs:List Int)(i:Nat):Nat→Nat
 | 0=>0
 | n+1=>if chQ zs i n=n∧zs.getD (i+n) 0=zs.getD i 0 then n+1 else chQ zs i n
def stl(zs:List Int)(k:Nat):List Nat:=(List.range k).filter (st zs)
def rns(zs:List Int)(k:Nat):List (Int×Int×Int):=(stl zs k).map fun(i:Nat)=>((i:Int),(chQ zs i (k-i):Int),zs.getD i 0)
theorem gH(zs:List Int)(k:Nat):stl zs (k+1)=if st zs k then stl zs k++[k]else stl zs k:=by
 simp only[stl,List.range_succ,List.filter_append];by_cases h:st zs k<;>simp[h]
theorem aAU{zs:List Int}{k i:Nat}(h:i∈stl zs k):i<k∧st zs i=true:=by
 simpa [stl] using h
theorem aLV(zs:List Int)(i n:Nat):chQ zs i n≤n:=by
 induction n with
 | zero=>simp[chQ]
 | succ n ih=>simp only[chQ];split<;>omega
theorem wO{zs:List Int}{i n:Nat}:chQ zs i n=n↔∀j,j<n→zs.getD (i+j) 0=zs.getD i 0:=by
 induction n with
 | zero=>simp[chQ]
 | succ n ih=>
  simp only[chQ];constructor
  ·intro h j hj
   split at h
   ·rename_i hc
    by_cases hjn:j=n
    ·subst hjn;exact hc.2
    ·exact ih.1 hc.1 j (by omega)
   ·have:=aLV zs i n;omega
  ·intro h
   rw[if_pos ⟨ih.2 fun j hj=>h j (by omega),h n (by omega)⟩]
theorem jR{zs:List Int}{i:Nat}:st zs i=true↔zs.getD i 0≠0∧(i=0∨zs.getD (i-1) 0≠zs.getD i 0):=by
 simp[st]
theorem aFP(zs:List Int)(k:Nat)(h:zs.getD k 0≠0):∃i,i≤k∧st zs i=true∧stl zs (k+1)=stl zs i++[i]∧∀j,i≤j→j≤k→zs.getD j 0=zs.getD k 0:=by
 induction k with
 | zero=>
  have hs:st zs 0=true:=jR.2 ⟨h,.inl rfl⟩;exact⟨0,nR _,hs,by rw[gH,if_pos hs],fun j h1 h2=>by rw[show j=0 by omega]⟩
 | succ k ih=>
  by_cases hs:st zs (k+1)=true
  ·exact⟨k+1,nR _,hs,by rw[gH,if_pos hs],fun j h1 h2=>by rw[show j=k+1 by omega]⟩
  ·have he:zs.getD k 0=zs.getD (k+1) 0:=by
    have:=mt jR.2 hs
    simp only[Nat.add_sub_cancel,not_and,not_or,Decidable.not_not]at this;exact(this h).2
   obtain⟨i,h1,h2,h3,h4⟩:=ih (by rw[he];exact h);refine⟨i,by omega,h2,by rw[gH,if_neg hs,h3],fun j g1 g2=>?_⟩;by_cases hj:j=k+1
   ·rw[hj]
   ·rw[h4 j g1 (by omega),he]
theorem sQ{zs:List Int}{i k:Nat}(h:i<k)(hn:¬∀j,i≤j→j≤k→zs.getD j 0=zs.getD i 0):chQ zs i (k+1-i)=chQ zs i (k-i):=by
 rw[show k+1-i=(k-i)+1 by omega];simp only[chQ];rw[if_neg];rintro⟨h1,h2⟩;refine hn fun j g1 g2=>?_;by_cases hj:j=k
 ·rw[hj,show k=i+(k-i) by omega];exact h2
 ·have:=wO.1 h1 (j-i) (by omega)
  rwa [show i+(j-i)=j by omega]at this
theorem aLQ(zs:List Int)(i:Nat):chQ zs i 1=1:=by simp[chQ]
theorem aHE(zs:List Int)(k:Nat)(h:zs.getD k 0=0):rns zs (k+1)=rns zs k:=by
 have hs:st zs k≠true:=fun e=>(jR.1 e).1 h;simp only[rns,gH,if_neg hs];refine List.map_congr_left fun i hi=>?_;obtain⟨h1,h2⟩:=aAU hi;rw[sQ h1 fun g=>(jR.1 h2).1 (by rw[←g k (by omega) (nR _)];exact h)]
theorem aJA(zs:List Int)(k:Nat)(h:zs.getD k 0≠0)(hn:k=0∨zs.getD (k-1) 0≠zs.getD k 0):rns zs (k+1)=rns zs k++[((k:Int),1,zs.getD k 0)]:=by
 have hs:st zs k=true:=jR.2 ⟨h,hn⟩;simp only[rns,gH,if_pos hs,List.map_append,List.map_cons,List.map_nil];rw[show k+1-k=1 by omega,aLQ];congr 1;refine List.map_congr_left fun i hi=>?_;obtain⟨h1,h2⟩:=aAU hi;rw[sQ h1 fun g=>?_];rcases hn with rfl | hn
 ·omega
 ·exact hn (by rw[g (k-1) (by omega) (by omega),g k (by omega) (by omega)])
theorem aIJ(zs:List Int)(k:Nat)(h:zs.getD (k+1) 0≠0)(he:zs.getD k 0=zs.getD (k+1) 0):
  ∃(pre:List (Int×Int×Int)) (a b c:Int),rns zs (k+1)=pre++[(a,b,c)]∧rns zs (k+1+1)=pre++[(a,b+1,c)]∧0≤b∧b≤k+1:=by
 obtain⟨i,h1,h2,h3,h4⟩:=aFP zs k (by rw[he];exact h);have hs:st zs (k+1)≠true:=fun e=>by
  rcases(jR.1 e).2 with g | g
  ·omega
  ·exact g he
 have hall:∀j,j<k+1-i→zs.getD (i+j) 0=zs.getD i 0:=fun j hj=>by rw[h4 (i+j) (by omega) (by omega),h4 i (by omega) h1]
 have hc:chQ zs i (k+1-i)=k+1-i:=wO.2 hall;have hc2:chQ zs i (k+1+1-i)=k+1-i+1:=by
  rw[show k+1+1-i=(k+1-i)+1 by omega];refine wO.2 fun j hj=>?_;by_cases hj':j=k+1-i
  ·rw[hj',show i+(k+1-i)=k+1 by omega,←he,h4 i (by omega) h1]
  ·exact hall j (by omega)
 refine⟨(stl zs i).map fun(q:Nat)=>((q:Int),(chQ zs q (k+1-q):Int),zs.getD q 0),(i:Int),((k+1-i:Nat):Int),zs.getD i 0,?_,?_,by omega,by omega⟩
 ·simp only[rns,h3,List.map_append,List.map_cons,List.map_nil,hc]
 ·rw[rns,gH,if_neg hs,h3]
  simp only[List.map_append,List.map_cons,List.map_nil,hc2];congr 1;refine List.map_congr_left fun q hq=>?_;obtain⟨g1,g2⟩:=aAU hq;rw[sQ (show q<k+1 by omega) fun g=>?_];rcases(jR.1 h2).2 with e | e
  ·omega
  ·exact e (by rw[g (i-1) (by omega) (by omega),g i (by omega) (by omega)])
theorem tL(zs:List Int)(k:Nat):(rns zs k).length≤k:=by
 simp only[rns,List.length_map,stl];exact lT (List.length_filter_le _ _) (by simp)
theorem wG{zs:List Int}{i m:Nat}(h:chQ zs i m=m)(hn:zs.getD (i+m) 0≠zs.getD i 0):∀n,chQ zs i (m+n)=m
 | 0=>h
 | n+1=>by
  have ih:=wG h hn n;rw[show m+(n+1)=(m+n)+1 by omega];simp only[chQ];rw[if_neg,ih];rintro⟨h1,h2⟩;rw[ih]at h1;exact hn (by rw[show m+n=m by omega]at h2;exact h2)
def srn(zs:List Int)(n k:Nat):List (Int×Int×Int):=(stl zs k).map fun(i:Nat)=>((i:Int),(chQ zs i (n-i):Int),zs.getD i 0)
theorem aIT(zs:List Int)(n:Nat):srn zs n n=rns zs n:=rfl
theorem aHQ(zs:List Int)(n k:Nat)(h:st zs k=false):srn zs n (k+1)=srn zs n k:=by simp[srn,gH,h]
theorem qQ(zs:List Int)(n k:Nat)(h:st zs k=true):srn zs n (k+1)=srn zs n k++[((k:Int),(chQ zs k (n-k):Int),zs.getD k 0)]:=by simp[srn,gH,h]
theorem aBX(zs:List Int)(n k:Nat):(srn zs n k).length≤k:=by
 simp only[srn,List.length_map,stl];exact lT (List.length_filter_le _ _) (by simp)
end Go.Proofs.YtaahkgkdpnnhhaaGreat
namespace Go.Proofs
open Go.Shelf
def Tryz.sort64_ren:Go.Shelf.Ren:=⟨fun | 53=>156 | 64=>159 | 63=>158 | 78=>169 | 79=>170 | 70=>160 | 71=>161 | 72=>162 | 73=>163 | 74=>164 | 75=>165 | 59=>166 | 76=>167 | 77=>168 | 88=>171 | 89=>172 | 90=>173 | 91=>174 | 92=>175 | 68=>107 | 96=>176 | n=>n,fun | 22=>24 | 23=>2 | 3=>3 | 51=>141 | 0=>0 | 67=>217 | 69=>219 | 4=>4 | 61=>210 | 60=>209 | 44=>87 | 5=>5 | 9=>9 | 75=>220 | 79=>224 | 83=>226 | 84=>227 | n=>n,fun | n=>n⟩
theorem Tryz.sort64:Go.Proofs.SlLaysN.n53 Tryz.prog Tryz.sort64_ren:={
 mixed:=by kernel_rfl
 f53:=⟨Tryz.f156.name,by decide,Tryz.func156.trans (congrArg some (by kernel_rfl))⟩
 f59:=⟨Tryz.f166.name,by decide,Tryz.func166.trans (congrArg some (by kernel_rfl))⟩
 f63:=⟨Tryz.f158.name,by decide,Tryz.func158.trans (congrArg some (by kernel_rfl))⟩
 f64:=Tryz.func159.trans (congrArg some (by kernel_rfl))
 f68:=⟨Tryz.f107.name,by decide,Tryz.func107.trans (congrArg some (by kernel_rfl))⟩
 f70:=⟨Tryz.f160.name,by decide,Tryz.func160.trans (congrArg some (by kernel_rfl))⟩
 f71:=⟨Tryz.f161.name,by decide,Tryz.func161.trans (congrArg some (by kernel_rfl))⟩
 f72:=⟨Tryz.f162.name,by decide,Tryz.func162.trans (congrArg some (by kernel_rfl))⟩
 f73:=⟨Tryz.f163.name,by decide,Tryz.func163.trans (congrArg some (by kernel_rfl))⟩
 f74:=⟨Tryz.f164.name,by decide,Tryz.func164.trans (congrArg some (by kernel_rfl))⟩
 f75:=⟨Tryz.f165.name,by decide,Tryz.func165.trans (congrArg some (by kernel_rfl))⟩
 f76:=⟨Tryz.f167.name,by decide,Tryz.func167.trans (congrArg some (by kernel_rfl))⟩
 f77:=⟨Tryz.f168.name,by decide,Tryz.func168.trans (congrArg some (by kernel_rfl))⟩
 f78:=Tryz.func169.trans (congrArg some (by kernel_rfl))
 f79:=Tryz.func170.trans (congrArg some (by kernel_rfl))
 f88:=⟨Tryz.f171.name,by decide,Tryz.func171.trans (congrArg some (by kernel_rfl))⟩
 f89:=Tryz.func172.trans (congrArg some (by kernel_rfl))
 f90:=Tryz.func173.trans (congrArg some (by kernel_rfl))
 f91:=⟨Tryz.f174.name,by decide,Tryz.func174.trans (congrArg some (by kernel_rfl))⟩
 f92:=⟨Tryz.f175.name,by decide,Tryz.func175.trans (congrArg some (by kernel_rfl))⟩
 f96:=⟨Tryz.f176.name,by decide,Tryz.func176.trans (congrArg some (by kernel_rfl))⟩
 t0:=Tryz.underlying0
 a0:=Tryz.isAgg0
 z0:=Tryz.sizeOf0
 v0:=Tryz.zeroValue0
 t3:=Tryz.underlying3
 a3:=Tryz.isAgg3
 z3:=Tryz.sizeOf3
 v3:=Tryz.zeroValue3
 t4:=Tryz.underlying4
 a4:=Tryz.isAgg4
 z4:=Tryz.sizeOf4
 v4:=Tryz.zeroValue4
 t5:=Tryz.underlying5
 a5:=Tryz.isAgg5
 z5:=Tryz.sizeOf5
 v5:=Tryz.zeroValue5
 t9:=Tryz.underlying9
 a9:=Tryz.isAgg9
 z9:=Tryz.sizeOf9
 v9:=Tryz.zeroValue9
 t22:=Tryz.underlying24
 a22:=Tryz.isAgg24
 z22:=Tryz.sizeOf24
 v22:=Tryz.zeroValue24
 t23:=Tryz.underlying2
 a23:=Tryz.isAgg2
 z23:=Tryz.sizeOf2
 v23:=Tryz.zeroValue2
 t44:=Tryz.underlying87
 a44:=Tryz.isAgg87
 z44:=Tryz.sizeOf87
 v44:=Tryz.zeroValue87
 t51:=Tryz.underlying141
 a51:=Tryz.isAgg141
 z51:=Tryz.sizeOf141
 v51:=Tryz.zeroValue141
 t60:=Tryz.underlying209
 a60:=Tryz.isAgg209
 z60:=Tryz.sizeOf209
 v60:=Tryz.zeroValue209
 t61:=Tryz.underlying210
 a61:=Tryz.isAgg210
 z61:=Tryz.sizeOf210
 v61:=Tryz.zeroValue210
 t67:=Tryz.underlying217
 a67:=Tryz.isAgg217
 z67:=Tryz.sizeOf217
 v67:=Tryz.zeroValue217
 t69:=Tryz.underlying219
 a69:=Tryz.isAgg219
 z69:=Tryz.sizeOf219
 v69:=Tryz.zeroValue219
 t75:=Tryz.underlying220
 a75:=Tryz.isAgg220
 z75:=Tryz.sizeOf220
 v75:=Tryz.zeroValue220
 t79:=Tryz.underlying224
 a79:=Tryz.isAgg224
 z79:=Tryz.sizeOf224
 v79:=Tryz.zeroValue224
 t83:=Tryz.underlying226
 a83:=Tryz.isAgg226
 z83:=Tryz.sizeOf226
 v83:=Tryz.zeroValue226
 t84:=Tryz.underlying227
 a84:=Tryz.isAgg227
 z84:=Tryz.sizeOf227
 v84:=Tryz.zeroValue227}
end Go.Proofs
namespace Go.Proofs.YtaahkgkdpnnhhaaGreat
open Go.RowKit
def aHM(lo hi:Nat)(w:World)(v:Value)(rs:List (Int×Int×Int)):Prop:=
 ∃a cap,v=.slice a rs.length cap∧(0<rs.length→∃b off,a=some ⟨b,off,none⟩∧lo≤b∧b<hi∧b<w.heap.size∧(∀j,w.frozen? ⟨b,j,none⟩=false)∧∀i,i<rs.length→w.cell? ⟨b,off+i*3,none⟩=some (.int .i64 (rs.getD i (0,0,0)).1)∧w.cell? ⟨b,off+i*3+1,none⟩=some (.int .i64 (rs.getD i (0,0,0)).2.1)∧w.cell? ⟨b,off+i*3+2,none⟩=some (.int .i64 (rs.getD i (0,0,0)).2.2))
theorem aHM.empty(lo hi:Nat)(w:World)(a:Option Addr)(cap:Nat):aHM lo hi w (.slice a 0 cap) []:=⟨a,cap,rfl,fun h=>by simp at h⟩
def eT(rs:List (Int×Int×Int)):List Value:=rs.flatMap fun r=>[.int .i64 r.1,.int .i64 r.2.1,.int .i64 r.2.2]
def fC(base:Nat)(w:World)(v:Value)(rs:List (Int×Int×Int)):Prop:=w.ownsRow base 165 3 v rs.length (eT rs)
theorem nW(rs:List (Int×Int×Int)):(eT rs).length=rs.length*3:=by
 induction rs with
 | nil=>rfl
 | cons r l ih=>simp only[eT,List.flatMap_cons,lP,List.length_cons,List.length_nil]at ih ⊢;omega
theorem kC(rs ss:List (Int×Int×Int)):eT (rs++ss)=eT rs++eT ss:=by simp[eT]
theorem vX(rs:List (Int×Int×Int))(i:Nat)(h:i<rs.length):(eT rs)[i*3]?=some (.int .i64 (rs.getD i (0,0,0)).1)∧(eT rs)[i*3+1]?=some (.int .i64 (rs.getD i (0,0,0)).2.1)∧(eT rs)[i*3+2]?=some (.int .i64 (rs.getD i (0,0,0)).2.2):=by
 induction rs generalizing i with
 | nil=>simp at h
 | cons r l ih=>
  match i with
  | 0=>simp[eT]
  | i+1=>
   have:=ih i (by simpa using h)
   have e:eT (r :: l)=[.int .i64 r.1,.int .i64 r.2.1,.int .i64 r.2.2]++eT l:=by simp[eT]
   rw[e,List.getElem?_append_right (by simp;omega),List.getElem?_append_right (by simp;omega),List.getElem?_append_right (by simp;omega)];simp only[List.length_cons,List.length_nil,List.getD_cons_succ];rw[show(i+1)*3 -(0+1+1+1)=i*3 by omega,show(i+1)*3+1 -(0+1+1+1)=i*3+1 by omega,show(i+1)*3+2 -(0+1+1+1)=i*3+2 by omega];exact this
theorem fC.shape{base:Nat}{w:World}{v:Value}{rs:List (Int×Int×Int)}(h:fC base w v rs):∃a cap,v=.slice a rs.length cap:=by
 rcases h.2 with⟨hv,hn⟩ | ⟨g,cap,cur,hv,_⟩
 ·exact⟨none,0,by rw[hv,hn]⟩
 ·exact⟨_,_,hv⟩
theorem fC.start(base:Nat)(w:World):fC base w (.slice none 0 0) []:=World.ownsRow_nil w base 165 3
theorem fC.lit(base:Nat)(w:World)(hb:base≤w.heap.size)(g:Nat)(hg:g=w.heap.size):fC base (w.alloc (.cells #[] 165)) (.slice (some ⟨g,0,none⟩) 0 0) []:=by
 subst hg;exact World.ownsRow_lit (e:=165) (size:=3) w #[] 0 hb (by decide) rfl
theorem fC.own{base:Nat}{w:World}{v:Value}{rs:List (Int×Int×Int)}(h:fC base w v rs):aHM base w.heap.size w v rs:=by
 obtain⟨a,cap,hf⟩:=h.shape;refine⟨a,cap,hf,fun hp=>?_⟩;have hlt:=h.lt;rcases h.2 with⟨_,e⟩ | ⟨b,cap',cur,hv,e1,e2,e3⟩
 ·omega
 ·subst hv
  have hca:=h.cellAt;have hfr:=h.frozenAt;simp only[Value.slice.injEq]at hf;obtain⟨rfl,_,rfl⟩:=hf;refine⟨b,0,rfl,(hlt b rfl).1,(hlt b rfl).2,(hlt b rfl).2,hfr,fun i hi=>?_⟩;obtain⟨g1,g2,g3⟩:=vX rs i hi;rw[Nat.zero_add,hca (i*3) (by omega),hca (i*3+1) (by omega),hca (i*3+2) (by omega)];exact⟨g1,g2,g3⟩
theorem lV(zs:List Int):chk [zs]=if inB zs.length 8 512=false then 1 else if eQ zs then 2 else if fL zs then 5 else 0:=by
 by_cases h:inB zs.length 8 512=false<;>simp[chk,fO,h]
theorem aCO(a b:List Int)(h:a.length=b.length):chk [a,b]=if chk [a]=1∨chk [b]=1 then 1 else if chk [a]=2∨chk [b]=2 then 2 else if chk [a]≠0 then chk [a]else chk [b]:=by
 rw[lV,lV,h];by_cases h1:inB b.length 8 512=false
 ·simp[chk,fO,h,h1]
 ·cases h2:eQ a<;>cases h3:eQ b<;>cases h4:fL a<;>cases h5:fL b<;>simp[chk,fO,h,h1,h2,h3,h4,h5]
theorem aEK(a b:List Int)(h:a.length≠b.length):chk [a,b]=1:=by
 have h2:((b.length:Int) !=(a.length:Int))=true:=by simp;omega
 simp[chk,fO,h2]
theorem aAP{zs:List Int}(h:chk [zs]=0):(8≤zs.length∧zs.length≤512)∧(∀i,0≤zs.getD i 0∧zs.getD i 0≤65535)∧zs.getD 0 0=0∧zs.getD 1 0=0:=by
 rw[lV]at h;by_cases h1:inB zs.length 8 512=false
 ·rw[if_pos h1]at h;omega
 ·rw[if_neg h1]at h
  by_cases h2:eQ zs=true
  ·rw[if_pos h2]at h;omega
  ·rw[if_neg h2]at h
   by_cases h3:fL zs=true
   ·rw[if_pos h3]at h;omega
   ·simp only[Bool.not_eq_false,inB,decide_eq_true_eq]at h1
    have h2':eQ zs=false:=by simpa using h2
    simp only[fL,Bool.or_eq_true,bne_iff_ne,ne_eq,not_or,Decidable.not_not]at h3;refine⟨by omega,fun i=>?_,h3⟩;by_cases hi:i<zs.length
    ·have:=List.any_eq_false.1 h2' zs[i] (List.getElem_mem hi)
     simp only[inB,Bool.not_eq_true',decide_eq_false_iff_not,Decidable.not_not]at this;simpa [hi] using this
    ·simp[hi]
section
variable {P : Program} {ops : Array Oper} {Q : Exit → Act → World → Prop} {md : Region.Mode} {S : World → Prop} {L : Nat}
def zH(md:Region.Mode)(ops:Array Oper)(L i:Nat):Bool:=((ops[L]?).map fun o=>o.after.toList.any fun e=>Region.binds md e && e.on == i).getD false
theorem xR{i:Nat}(h:zH md ops L i=true){listed:Array Bool}(hi:i∈Region.ready md ops listed)(hL:L∈Region.ready md ops listed):i=L:=by
 obtain⟨h1,o,ho,h2⟩:=mem_ready.1 hi;obtain⟨_,oL,hoL,h4⟩:=mem_ready.1 hL;unfold zH at h;simp only[hoL,Option.map_some,Option.getD_some,List.any_eq_true,Bool.and_eq_true,beq_iff_eq]at h;obtain⟨e,he,hb,hon⟩:=h;have h6:=h4 e (by simpa using he) hb;rw[hon]at h6;simp only[Array.getD_eq_getD_getElem?]at h1 h6;cases hx:listed[i]? with
 | none=>simp[hx]at h1
 | some b=>simp[hx]at h1 h6;rw[h1]at h6;cases h6
theorem aAN{i:Nat}(hlast:zH md ops L i=true){oi:Oper}{v:Value}(hi:ops[i]?=some oi)(hsel:∀(j:Nat) (o:Oper) cs b,ops[j]?=some o→o.op≠.select cs b)
  (hQ:∀c a w,Q (.panic c) (a.put oi.dst v) w→Q (.panic c) a w) (fuel:Nat):
  ∀(listed:Array Bool) (a:Act) (w:World),
   (∀j oj,ops[j]?=some oj→j≠i→listed.getD j true=false→(∀e∈oj.after,Region.binds md e=true→e.on≠i)→oi.apart ops oj=true)→
   i∈Region.ready md ops listed→YieldsIf P ops S oi v a→S w→
   dX P md ops Q S L fuel (listed.setIfInBounds i true) (a.put oi.dst v) w→dX P md ops Q S L (fuel+1) listed a w:=by
 induction fuel with
 | zero=>
  intro listed a w _ hr hy hS H;refine⟨fun h=>by simp[h]at hr,fun j hj=>?_⟩;by_cases hji:j=i
  ·subst hji
   exact hy.wpOp hi hS ⟨fun _=>hS,H⟩
  ·have hm:=ready_mono hj hji
   simp[H.1]at hm
 | succ fuel ih=>
  intro listed a w hfree hr hy hS H;refine⟨fun h=>by simp[h]at hr,fun j hj=>?_⟩;by_cases hji:j=i
  ·subst hji
   exact hy.wpOp hi hS ⟨fun _=>hS,H⟩
  ·have hjL:j≠L:=fun e=>hji (e.trans (xR hlast hr (e▸hj)).symm)
   obtain⟨hjun,oj,hoj,hall⟩:=mem_ready.1 hj;have hnot:∀e∈oj.after,Region.binds md e=true→e.on≠i:=fun e he hb hon=>by
    have h1:=hall e he hb;have h0:=(mem_ready.1 hr).1;rw[hon]at h1;simp only[Array.getD_eq_getD_getElem?]at h0 h1;cases hx:listed[i]? with
    | none=>simp[hx]at h0
    | some b=>simp[hx]at h0 h1;rw[h0]at h1;cases h1
   have h2:=wpOp_putIf hoj (hfree j oj hoj hji hjun hnot) (fun cs b=>hsel i oi cs b hi) (fun cs b=>hsel j oj cs b hoj) hQ hy (H.2 j (ready_mono hj hji));refine wpOp_mono (fun a' w' h3=>?_) h2;obtain⟨hy',hS',hE⟩:=h3;refine⟨hS',ih (listed.setIfInBounds j true) a' w' (fun k ok hk hki hun hno=>hfree k ok hk hki ?_ hno) (ready_mono hr (Ne.symm hji)) hy' (hS' hjL) ?_⟩
   ·by_cases hjk:j=k
    ·exact hjk▸hjun
    ·rwa [getD_set_ne true hjk]at hun
   ·rw[Array.setIfInBounds_comm _ _ hji]
    exact hE
theorem vH{i:Nat}{oi:Oper}(t:Nat)(v:Value){fuel:Nat}{listed:Array Bool}{a:Act}{w:World}(hlast:zH md ops L i=true)(hi:ops[i]?=some oi)
  (hs:Region.noSelect ops=true) (hf:Region.free md ops listed i=true) (hr:(Region.ready md ops listed).contains i=true)
  (hQ:∀c a w,Q (.panic c) (a.put oi.dst v) w→Q (.panic c) a w) (hg:oi.guard=none) (ht:oi.dst=some t) (hS:S w) (hy:∀w,S w→(execOp a.eval oi).run P w=.ok (.value v) w)
  (h:dX P md ops Q S L fuel (listed.setIfInBounds i true) (a.put (some t) v) w):dX P md ops Q S L (fuel+1) listed a w:=
 aAN hlast hi (Region.noSelect_spec hs) hQ fuel listed a w (Region.free_spec hi hf) (by simpa using hr) (.inl ⟨by simp[Region.wanted,hg],hy⟩) hS (by rw[ht];exact h)
theorem tJ(i:Nat){oi:Oper}(t:Nat)(v:Value){fuel:Nat}{listed:Array Bool}{a:Act}{w:World}(hi:ops[i]?=some oi)(hS:S w)(h:dX P md ops Q S L fuel (listed.setIfInBounds i true) (a.put (some t) v) w)(hy:∀w,S w→(execOp a.eval oi).run P w=.ok (.value v) w:=by(intro w' hw;(repeat (obtain⟨_,hw⟩:=hw));go_simp;try rfl))(hlast:zH md ops L i=true:=by kernel_rfl)(hs:Region.noSelect ops=true:=by kernel_rfl)(hf:Region.free md ops listed i=true:=by kernel_rfl)(hr:(Region.ready md ops listed).contains i=true:=by kernel_rfl)(hQ:∀c a w,Q (.panic c) (a.put oi.dst v) w→Q (.panic c) a w:=by exact fun _ _ _ h=>h)(hg:oi.guard=none:=by rfl)(ht:oi.dst=some t:=by rfl):dX P md ops Q S L (fuel+1) listed a w:=vH t v hlast hi hs hf hr hQ hg ht hS hy h
end
end Go.Proofs.YtaahkgkdpnnhhaaGreat
namespace Go.Proofs.YtaahkgkdpnnhhaaGreat
open Go.RowKit
theorem vL(zs:List Int):chk [zs]=0∨chk [zs]=1∨chk [zs]=2∨chk [zs]=5:=by
 rw[lV];by_cases h1:inB zs.length 8 512=false
 ·rw[if_pos h1];simp
 ·rw[if_neg h1]
  cases h2:eQ zs<;>cases h3:fL zs<;>simp
theorem nC{a b:List Int}(h:chk [a,b]=0):a.length=b.length∧chk [a]=0∧chk [b]=0:=by
 by_cases hl:a.length=b.length
 ·rw[aCO a b hl]at h
  rcases vL a with h1 | h1 | h1 | h1<;>rcases vL b with h2 | h2 | h2 | h2<;>simp[h1,h2]at h ⊢
  exact hl
 ·rw[aEK a b hl]at h;omega
theorem LRd.two{w:World}{a a':Option Addr}{c c':Nat}{zs ys:List Int}(h:Nts w (.slice a zs.length c) zs)(h':Nts w (.slice a' ys.length c') ys)(t:TypeId)(g:Nat)(hg:g=w.heap.size):
  LRd (w.alloc (.cells #[.slice a zs.length c,.slice a' ys.length c'] t)) (.slice (some ⟨g,0,none⟩) 2 2) [zs,ys]:=by
 subst hg;refine⟨_,0,2,rfl,fun i hi=>?_⟩;match i,hi with
 | 0,_=>exact⟨a,c,World.cell?_alloc_at _ _ _ _ rfl,h.alloc _⟩
 | 1,_=>exact⟨a',c',World.cell?_alloc_at _ _ _ _ rfl,h'.alloc _⟩
theorem aEI{zs ys:List Int}(h:zs.length≤1048576)(h':ys.length≤1048576)(i:Nat):(([zs,ys]:List (List Int)).getD i []).length≤1048576:=by
 match i with
 | 0=>exact h
 | 1=>exact h'
 | i+2=>simp
theorem iK(w:World)(o:Obj):Bl w (w.alloc o):=(bQ _ _).alloc (nR _) _
end Go.Proofs.YtaahkgkdpnnhhaaGreat
namespace Go.Proofs.YtaahkgkdpnnhhaaGreat
open Go.RowKit Go.Shelf
attribute [local go_sem] Oper.semAt_some
abbrev Blk(n:Nat):={x:Nat // 2≤x∧x<n}
def isF(zs ys:List Int)(i:Nat):Bool:=zs.getD i 0 == 0 && ys.getD i 0 == 0
def frs(zs ys:List Int)(n k:Nat):List (Blk n):=((List.range k).filterMap fun i=>if h:2≤i∧i<n then(if isF zs ys i then some ⟨i,h⟩else none)else none)
theorem wV(zs ys:List Int)(n k:Nat)(h:2≤k∧k<n)(hf:isF zs ys k=true):frs zs ys n (k+1)=frs zs ys n k++[⟨k,h⟩]:=by
 simp[frs,List.range_succ,h,hf]
theorem sD(zs ys:List Int)(n k:Nat)(h:¬(2≤k∧k<n∧isF zs ys k=true)):frs zs ys n (k+1)=frs zs ys n k:=by
 simp only[frs,List.range_succ,List.filterMap_append,List.filterMap_cons,List.filterMap_nil];by_cases h1:2≤k∧k<n
 ·have:isF zs ys k≠true:=fun e=>h ⟨h1.1,h1.2,e⟩
  simp[h1,this]
 ·simp[h1]
theorem tD(zs ys:List Int)(n:Nat){j k:Nat}(h:j≤k):frs zs ys n j <+: frs zs ys n k:=by
 induction k with
 | zero=>rw[show j=0 by omega];exact List.prefix_refl _
 | succ k ih=>
  by_cases hj:j=k+1
  ·rw[hj];exact List.prefix_refl _
  ·refine(ih (by omega)).trans ?_
   by_cases h1:2≤k∧k<n∧isF zs ys k=true
   ·rw[wV zs ys n k ⟨h1.1,h1.2.1⟩ h1.2.2];exact List.prefix_append _ _
   ·rw[sD zs ys n k h1];exact List.prefix_refl _
theorem jZ(zs ys:List Int)(n k:Nat):(frs zs ys n k).length≤k:=by
 simp only[frs];exact lT (List.length_filterMap_le _ _) (by simp)
def KpF(n₀ Bs Bt:Nat)(W W':World):Prop:=Below n₀ W W'∧W'.heap[Bs]?=W.heap[Bs]?∧W'.heap[Bt]?=W.heap[Bt]?
theorem KpF.refl(n₀ Bs Bt:Nat)(W:World):KpF n₀ Bs Bt W W:=⟨bQ _ _,rfl,rfl⟩
theorem KpF.trans{n₀ Bs Bt:Nat}{A B C:World}(h:KpF n₀ Bs Bt A B)(k:KpF n₀ Bs Bt B C):KpF n₀ Bs Bt A C:=⟨h.1.trans k.1,k.2.1.trans h.2.1,k.2.2.trans h.2.2⟩
theorem KpF.put{n₀ Bs Bt N:Nat}(h1:n₀≤N)(h2:Bs<N)(h3:Bt<N)(W:World)(l:Nat)(o o':Obj)(hl:N≤l)(ho:W.heap[l]?=some o)(_:o.isCells=false)(_:o.isWalk=false):KpF n₀ Bs Bt W (W.putObj l o'):=by
 have hlt:l<W.heap.size:=(Array.getElem?_eq_some_iff.1 ho).1;exact⟨(bQ n₀ W).grown (grownBy_putObj' W l o') (by omega) (fun k e=>by cases e;omega),World.putObj_heap_other (by omega),World.putObj_heap_other (by omega)⟩
theorem aGT(F:Fence)(n:Nat)(hg:F.fn 150)(hro:F.round=none)(hn:1≤n)(l Bs Bt n₀ b off b' off' c c':Nat)(zs ys:List Int)(hl:ys.length=zs.length)(hz:zs.length≤512)(hz8:8≤zs.length)(hb:b<n₀)(hb':b'<n₀)(J Jx:List (Blk zs.length)→World→Prop)
  (hY:∀pre (x:Blk zs.length) W,J pre W→pre.length<zs.length→YieldAt F (n-1) Tryz.prog l #[.int .i64 (x.1:Int)] W fun e W'=>
   (e=.returned (.bool true)∧J (pre++[x]) W'∧KpF n₀ Bs Bt W W')∨(e=.returned (.bool false)∧Jx (pre++[x]) W'))
  (W:World) (hcs:W.cell? ⟨Bs,0,none⟩=some (.slice (some ⟨b,off,none⟩) zs.length c)) (hct:W.cell? ⟨Bt,0,none⟩=some (.slice (some ⟨b',off',none⟩) ys.length c'))
  (hc:∀j,j<zs.length→W.cell? ⟨b,off+j,none⟩=some (.int .i64 (zs.getD j 0))) (hc':∀j,j<ys.length→W.cell? ⟨b',off'+j,none⟩=some (.int .i64 (ys.getD j 0))) (h0:J [] W):
  CallsIn F n Tryz.prog 150 #[.func (.yield l) #[] #[],.pointer (some ⟨Bs,0,none⟩),.pointer (some ⟨Bt,0,none⟩)] W fun e W'=>(∃v,e=.returned v)∧
   ((∃xs,xs=frs zs ys zs.length zs.length∧J xs W')∨(∃pre,(∃k,k≤zs.length∧pre=frs zs ys zs.length k)∧Jx pre W')):=by
 refine callsIn_of_wp Tryz.func150 rfl hg ?_ hro;simp only[Tryz.ntmps150,List.size_toArray,List.length_cons,List.length_nil,Nat.reduceAdd,Nat.reduceSub,Array.replicate_succ,Array.replicate_zero,List.push_toArray,List.append_toArray,List.nil_append,List.cons_append];gi_wp2;gi_loopw [4] (fun i wr=>∃k:Nat,2≤k∧k≤zs.length∧i=.int .i64 k∧J (frs zs ys zs.length k) wr∧KpF n₀ Bs Bt W wr) (fun i _=>zs.length -(intOf i).toNat)
 case atStart=>exact⟨2,nR _,by omega,rfl,h0,KpF.refl _ _ _ _⟩
 case round=>
  obtain⟨k,hk2,hk,rfl,hJs,hnx⟩:=hrel;have d1:wr.cell? ⟨Bs,0,none⟩=some (.slice (some ⟨b,off,none⟩) zs.length c):=(World.cell?_of_block (a:=⟨Bs,0,none⟩) hnx.2.1).trans hcs;have d2:wr.cell? ⟨Bt,0,none⟩=some (.slice (some ⟨b',off',none⟩) ys.length c'):=(World.cell?_of_block (a:=⟨Bt,0,none⟩) hnx.2.2).trans hct;by_cases hlt:k<zs.length
  ·have d3:wr.cell? ⟨b,off+k,none⟩=some (.int .i64 (zs.getD k 0)):=(hnx.1.cell (p:=⟨b,off+k,none⟩) hb).trans (hc k hlt)
   have d4:wr.cell? ⟨b',off'+k,none⟩=some (.int .i64 (ys.getD k 0)):=(hnx.1.cell (p:=⟨b',off'+k,none⟩) hb').trans (hc' k (by omega));have hi:(k:Int) <(zs.length:Int):=by omega
   have hi':(k:Int) <(ys.length:Int):=by omega
   have HF:Hid (isF zs ys k=(zs.getD k 0 == 0 && ys.getD k 0 == 0)):=rfl;have hlen:=jZ zs ys zs.length k;obtain⟨x,HX⟩:∃x,Hid (zs.getD k 0=x):=⟨_,rfl⟩;obtain⟨y,HYY⟩:∃y,Hid (ys.getD k 0=y):=⟨_,rfl⟩;rw[HX.out]at d3 HF;rw[HYY.out]at d4 HF;clear hc hc' hcs hct h0;have HL:Hid (ys.length=zs.length):=hl;clear hl;by_cases hx:x=0
   ·subst hx
    by_cases hy:y=0
    ·subst hy
     have hfr:isF zs ys k=true:=by rw[HF.out];rfl
     have HFR:Hid (frs zs ys zs.length (k+1)=frs zs ys zs.length k++[⟨k,hk2,hlt⟩]):=wV zs ys _ k ⟨hk2,hlt⟩ hfr;obtain⟨fn,tmps,assign,body,hy,hR⟩:=hY _ ⟨k,hk2,hlt⟩ wr hJs (by omega);dsimp only at hy;clear hfr hY;gi_wp2;refine hR.mono ?_;rintro e W3 (⟨rfl,hJ3,hk3⟩ | ⟨rfl,hJx3⟩)
     ·rw[←HFR.out]at hJ3
      clear d1 d2 d3 d4 hy hR hJs;gi_wp2;go_roundw
      case rel=>exact⟨k+1,by omega,by omega,by go_num,hJ3,hnx.trans hk3⟩
      case measure=>simp[intOf];omega
     ·rw[←HFR.out]at hJx3
      clear d1 d2 d3 d4 hy hR hJs;gi_wp2;refine bodyPost_ret (results_none rfl _ _ _) rfl ?_;exact⟨⟨_,rfl⟩,.inr ⟨_,⟨k+1,by omega,rfl⟩,hJx3⟩⟩
    ·have hy':(y == 0)=false:=by simpa using hy
     have HFR:Hid (frs zs ys zs.length (k+1)=frs zs ys zs.length k):=sD zs ys _ k fun e=>by have:=e.2.2;rw[HF.out,hy']at this;simp at this
     clear hy hY;gi_wp2;refine⟨fun _ h=>(by cases h),?_⟩;gi_wp2;go_roundw
     case rel=>exact⟨k+1,by omega,by omega,by go_num,by rw[HFR.out];exact hJs,hnx⟩
     case measure=>simp[intOf];omega
   ·have hx':(x == 0)=false:=by simpa using hx
    have HFR:Hid (frs zs ys zs.length (k+1)=frs zs ys zs.length k):=sD zs ys _ k fun e=>by have:=e.2.2;rw[HF.out,hx']at this;simp at this
    clear hx hY;gi_wp2;refine⟨fun _ h=>(by cases h),?_⟩;gi_wp2;go_roundw
    case rel=>exact⟨k+1,by omega,by omega,by go_num,by rw[HFR.out];exact hJs,hnx⟩
    case measure=>simp[intOf];omega
  ·obtain rfl:k=zs.length:=by omega
   gi_wp2
   go_end0
   exact⟨⟨_,rfl⟩,.inl ⟨_,rfl,hJs⟩⟩
attribute [local go_sem] Oper.semAt_some
theorem iY(F:Fence)(n:Nat)(hg:F.fn 131)(hro:F.round=none)(x y:Value)(w:World)(hx:∃a l c,x=.slice a l c)(hy:∃a l c,y=.slice a l c):
  CallsIn F n Tryz.prog 131 #[x,y] w fun e w'=>e=.returned (.func (.func 150) #[] #[.pointer (some ⟨w.heap.size,0,none⟩),.pointer (some ⟨w.heap.size+1,0,none⟩)])∧w'=(w.alloc (.cells #[x] 24)).alloc (.cells #[y] 24):=by
 obtain⟨a,l,c,rfl⟩:=hx;obtain⟨a',l',c',rfl⟩:=hy;refine callsIn_of_wp Tryz.func131 rfl hg ?_ hro;simp only[Tryz.ntmps131,List.size_toArray,List.length_cons,List.length_nil,Nat.reduceAdd,Nat.reduceSub,Array.replicate_succ,Array.replicate_zero,List.push_toArray,List.append_toArray,List.nil_append,List.cons_append];gi_wp2;go_ret;exact⟨rfl,rfl⟩
theorem mJ(F:Fence)(n:Nat)(hg:F.fn 150)(hro:F.round=none)(hn:1≤n)(Bs Bt n₀:Nat)(a a':Option Addr)(c c':Nat)(zs ys:List Int)(hl:ys.length=zs.length)(hz:zs.length≤512)(hz8:8≤zs.length)(w:World)(hBs:Bs<w.heap.size)(hBt:Bt<w.heap.size)(_hn₀:n₀≤w.heap.size)
  (hc:w.cell? ⟨Bs,0,none⟩=some (.slice a zs.length c)) (hc':w.cell? ⟨Bt,0,none⟩=some (.slice a' ys.length c')) (w0:World) (h0:Nts w0 (.slice a zs.length c) zs) (h0':Nts w0 (.slice a' ys.length c') ys) (hw0:w0.heap.size≤n₀) (hb0:Bl w0 w):
  SeqStopsK F n Tryz.prog 150 #[.pointer (some ⟨Bs,0,none⟩),.pointer (some ⟨Bt,0,none⟩)] (fun x:Blk zs.length=>#[Value.int .i64 (x.1:Int)]) (KpF n₀ Bs Bt) (fun xs=>xs=frs zs ys zs.length zs.length) (fun pre=>∃k,k≤zs.length∧pre=frs zs ys zs.length k) zs.length w:=fun l J Jx W hW _ _ hY hJ0=>by
 obtain⟨_,_,he,hs⟩:=h0.shape;simp only[Value.slice.injEq,true_and]at he;obtain⟨rfl,rfl⟩:=he;obtain⟨b,off,rfl,hcell⟩:=hs (by omega);obtain⟨_,_,he,hs'⟩:=h0'.shape;simp only[Value.slice.injEq,true_and]at he;obtain⟨rfl,rfl⟩:=he;obtain⟨b',off',rfl,hcell'⟩:=hs' (by omega);have hb:b<w0.heap.size:=World.block_lt_of_cell? _ _ (hcell 0 (by omega));have hb':b'<w0.heap.size:=World.block_lt_of_cell? _ _ (hcell' 0 (by omega));have hw0W:=hb0.trans (hW.mono hb0.size);exact aGT F n hg hro hn l Bs Bt n₀ b off b' off' c c' zs ys hl hz hz8 (by omega) (by omega) J Jx hY W ((hW.cell (p:=⟨Bs,0,none⟩) hBs).trans hc) ((hW.cell (p:=⟨Bt,0,none⟩) hBt).trans hc')
  (fun j hj=>(hw0W.cell (p:=⟨b,off+j,none⟩) hb).trans (hcell j hj)) (fun j hj=>(hw0W.cell (p:=⟨b',off'+j,none⟩) hb').trans (hcell' j hj)) hJ0
def low(zs ys:List Int):Int:=match frs zs ys zs.length zs.length with
 | []=>0
 | x :: _=>(x.1:Int)
theorem uF(F:Fence)(n:Nat)(h1:F.fn 151)(h2:F.fn 131)(h3:F.fn 150)(hro:F.round=none)(hn:3≤n)(a a':Option Addr)(c c':Nat)(zs ys:List Int)(hl:ys.length=zs.length)(hz:zs.length≤512)(hz8:8≤zs.length)(w:World)(hv:Nts w (.slice a zs.length c) zs)(hv':Nts w (.slice a' ys.length c') ys):
  CallsIn F n Tryz.prog 151 #[.slice a zs.length c,.slice a' ys.length c'] w fun e W'=>e=.returned (.int .i64 (low zs ys))∧Bl w W':=by
 have hn1:1≤n:=by omega
 have HL:Hid (ys.length=zs.length):=hl;clear hl;refine callsIn_of_wp_marks Tryz.func151 rfl h1 ?_ hro;simp only[Tryz.ntmps151,List.size_toArray,List.length_cons,List.length_nil,Nat.reduceAdd,Nat.reduceSub,Array.replicate_succ,Array.replicate_zero,List.push_toArray,List.append_toArray,List.nil_append,List.cons_append];gi_wp2_with (gi_at_call 131;refine(iY F (n-1) h2 hro _ _ _ ⟨_,_,_,rfl⟩ ⟨_,_,_,rfl⟩).mono ?_;rintro e w' ⟨rfl,rfl⟩);have bR:=Boxed.new w 2 (.int .i64 0);have bS:=Boxed.new (w.alloc (.cells #[.int .i64 0] 2)) 24 (.slice a zs.length c);have bT:=Boxed.new ((w.alloc (.cells #[.int .i64 0] 2)).alloc (.cells #[.slice a zs.length c] 24)) 24 (.slice a' ys.length c');simp only[World.size_alloc]at bS bT;have hB0:Bl w (((w.alloc (.cells #[.int .i64 0] 2)).alloc (.cells #[.slice a zs.length c] 24)).alloc (.cells #[.slice a' ys.length c'] 24)):=(((bQ _ w).alloc (nR _) _).alloc (by simp) _).alloc (by simp;omega) _;refine wpIn_rangeFunc_ownF hro hn1 (gf:=150) (lb:=#[.pointer (some ⟨w.heap.size+1,0,none⟩),.pointer (some ⟨w.heap.size+1+1,0,none⟩)]) rfl h3 (enters_of Tryz.func150 (by kernel_rfl) rfl)
  (mJ F (n-1) h3 hro (by omega) (w.heap.size+1) (w.heap.size+1+1) w.heap.size a a' c c' zs ys HL.out hz hz8 _ (by simp) (by simp) (by simp;omega) ((bS.alloc _).cell) bT.cell w hv hv' (by omega) hB0) KpF.trans (KpF.put (by simp;omega) (by simp) (by simp)) (bQ _ _) (fun _=>rfl)
  (fun pre W=>(pre=[]∧W.cell? ⟨w.heap.size,0,none⟩=some (.int .i64 0)∧W.frozen? ⟨w.heap.size,0,none⟩=false)∧Bl w W)
  (fun k pre W=>(k=.ret∧∃x,pre=[x]∧W.cell? ⟨w.heap.size,0,none⟩=some (.int .i64 (x.1:Int)))∧Bl w W)
  (OwnFrom.and (Own.from (fun s A B row hs hg hr=>⟨hs.1,cell_kept hs.2.1 hg hr,(frozen_kept hs.2.1 hg hr).trans hs.2.2⟩) _) (ownFrom_below (nR _) (by simp;omega)))
  (fun k=>OwnFrom.and (Own.from (fun s A B row hs hg hr=>by obtain⟨e1,x,e2,e3⟩:=hs;exact⟨e1,x,e2,cell_kept e3 hg hr⟩) _) (ownFrom_below (nR _) (by simp;omega)))
  ⟨⟨rfl,((bR.alloc _).alloc _).cell,((bR.alloc _).alloc _).frozen⟩,hB0⟩
  (fun x=>{tmps:=#[.slice a zs.length c,.slice a' ys.length c',undef,undef,.pointer (some ⟨w.heap.size,0,none⟩),.int .i64 (x.1:Int),.slice a zs.length c,.slice a' ys.length c',.func (.func 150) #[] #[.pointer (some ⟨w.heap.size+1,0,none⟩),.pointer (some ⟨w.heap.size+1+1,0,none⟩)],.int .i64 (x.1:Int),undef],defers:=[]}) ?assign ?body ?done ?stop
 case assign=>
  intro l x W K hK;gi_wp2;exact hK
 case body=>
  rintro l pre x W ⟨⟨rfl,hc,hf⟩,hB⟩ _;gi_wp2;exact⟨KeepsOthers.setCell _ _ _,⟨rfl,x,rfl,World.cell?_setCell_same' _ _ _ (by rw[hc];rfl)⟩,hB.setCell (p:=⟨w.heap.size,0,none⟩) (nR _) _⟩
 case done=>
  rintro D xs W hD rfl ⟨⟨hnil,hc,hf⟩,hB⟩ hK;gi_wp2;have hK':=(KeepsOthers.setCell W ⟨w.heap.size,0,none⟩ (.int .i64 0)).same D _ hK rfl;refine⟨by simp,.inl ⟨_,_,rfl,run_takeDeferred hK',?_⟩⟩;have hc5:=cell_kept (World.cell?_setCell_same' W ⟨w.heap.size,0,none⟩ (.int .i64 0) (by rw[hc];rfl)) (grownBy_putObj' _ D (.deferred none)) (fun r e=>by cases e;exact⟨_,hK',rfl⟩);refine⟨.int .i64 0,?_,by unfold low;rw[hnil],(hB.setCell (p:=⟨w.heap.size,0,none⟩) (nR _) _).trans (belowK_b (w:=w) (nR _) _ D _ _ (by simp at hD;omega) hK' rfl rfl)⟩;simp[results,Tryz.f151,go_sem,hc5]
 case stop=>
  rintro D k pre W hD ⟨q,hq,hpre⟩ ⟨⟨rfl,x,rfl,hc⟩,hB⟩ hK;gi_wp2;refine⟨by simp,.inl ⟨_,_,rfl,run_takeDeferred hK,?_⟩⟩;have hc5:=cell_kept hc (grownBy_putObj' _ D (.deferred none)) (fun r e=>by cases e;exact⟨_,hK,rfl⟩);have hlow:low zs ys=(x.1:Int):=by
   obtain⟨t,ht⟩:=tD zs ys zs.length hq;unfold low;rw[←ht,←hpre];rfl
  refine⟨.int .i64 (x.1:Int),?_,by rw[hlow],hB.trans (belowK_b (w:=w) (nR _) W D _ _ (by simp at hD;omega) hK rfl rfl)⟩;simp[results,Tryz.f151,go_sem,hc5]
theorem sK(a a':Option Addr)(c c':Nat)(zs ys:List Int)(hl:ys.length=zs.length)(hz:zs.length≤512)(hz8:8≤zs.length)(w:World)(hv:Nts w (.slice a zs.length c) zs)(hv':Nts w (.slice a' ys.length c') ys):
  Calls Tryz.prog 151 #[.slice a zs.length c,.slice a' ys.length c'] w fun e W'=>e=.returned (.int .i64 (low zs ys))∧Bl w W':=
 (callsIn_wide (n:=3)).1 (uF Fence.wide 3 trivial trivial trivial rfl (nR _) a a' c c' zs ys hl hz hz8 w hv hv')
