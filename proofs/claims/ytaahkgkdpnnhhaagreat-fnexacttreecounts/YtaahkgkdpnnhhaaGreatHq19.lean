import Derived.Test.YtaahkgkdpnnhhaaGreatHpT
set_option maxHeartbeats 9999999
set_option maxRecDepth 99999
set_option linter.all false
namespace Go.Proofs.YtaahkgkdpnnhhaaGreat
open Go.RowKit Go.Shelf Fo
theorem aEX{K:Int}(hK:K≤900000):∀(h:Nat) (w:World) (ρ:Nat→Nat) (P:Nat) (A:Adr) (f:fZ) (J:List aR) (b:Nat),St w ρ P A f J→Sz K f→UC h f b→
  Calls Tryz.prog 127 #[.pointer (some ⟨P,0,none⟩),.int .i64 b] w (UnP w ρ P A J (unname h f b)):=by
 intro h;induction h with
 | zero=>
  intro w ρ P A f J b hS hz hu;obtain⟨d,hd,-,-,-,hk⟩:=hu.live;have hk0:=hk rfl;have:=(callsIn_wide (n:=5)).1 (vR (K:=K) Fence.wide 5 (fun h=>callsIn_wide.2 h) (fun _=>trivial) rfl (nR _) 0 w ρ P A f J b hS hz hK hu (fun _=>(dec f b,1)) d hd rfl (fun _ _ _ _=>⟨by show(1:Int)≤1;omega,by show(1:Int)≤600;omega⟩) (fun _ pre x post e=>by rw[hk0]at e;simp at e));exact this
 | succ h ih=>
  intro w ρ P A f J b hS hz hu;obtain⟨d,hd,-,-,-,-⟩:=hu.live;have:=(callsIn_wide (n:=5)).1 (vR (K:=K) Fence.wide 5 (fun h=>callsIn_wide.2 h) (fun _=>trivial) rfl (nR _) (h+1) w ρ P A f J b hS hz hK hu (fun l=>unL h l (dec f b,1)) d hd rfl (fun hc=>(hu.next hd hc).2) (fun hc pre x post e W φ1 hW=>by
   have hux:=(hu.next hd hc).1 pre x post e;have hzx:Sz K (unL h pre (dec f b,1)).1:=hz.uk ((UK.dec f b).trans (UK.unL h pre (dec f b,1))) (UC.pos hux);have hC:=ih W ρ P {A with φ:=φ1} _ J x hW hzx hux;have hsn:((unL h (pre++[x]) (dec f b,1)).1,(unL h (pre++[x]) (dec f b,1)).2 -(unL h pre (dec f b,1)).2)=unname h (unL h pre (dec f b,1)).1 x:=by
    rw[aGX];refine Prod.ext rfl ?_;simp only;omega
   show Calls _ _ _ _ (UnP W ρ P {A with φ:=φ1} J ((unL h (pre++[x]) (dec f b,1)).1,(unL h (pre++[x]) (dec f b,1)).2 -(unL h pre (dec f b,1)).2))
   rw[hsn];exact hC))
  have hun:unname (h+1) f b=if 0<cu f b-1 then(dec f b,0)else(delN (unL h (kids d) (dec f b,1)).1 b,(unL h (kids d) (dec f b,1)).2):=by
   conv=>lhs;unfold unname
   rw[hd];rfl
  rw[hun];exact this
theorem jQ{w:World}{g:Nat}{xs:List (Int×Int)}(h:IsC w g (cO xs) 77){i:Nat}(hi:i<xs.length):w.cell? ⟨g,i*2,none⟩=some (.int .i64 (xs.getD i (0,0)).1)∧w.cell? ⟨g,i*2+1,none⟩=some (.int .i64 (xs.getD i (0,0)).2):=by
 rw[h.cell,h.cell];exact kM xs hi
theorem mO(x y g1 g2:Int)(B:Nat)(w:World)(hB:IsC w B #[.int .i64 g1,.int .i64 g2] 77):
  Calls Tryz.prog 126 #[.agg #[.int .i64 x,.int .i64 y],.pointer (some ⟨B,0,none⟩)] w fun e w'=>e=.returned (.bool (decide ((x,y)=(g1,g2))))∧Bl w w':=by
 have hBw:=(bQ w.heap.size w).alloc (nR _) (.cells #[.int .i64 x,.int .i64 y] 77);have hB1:=hB.alloc (.cells #[.int .i64 x,.int .i64 y] 77);have c0:(w.alloc (.cells #[.int .i64 x,.int .i64 y] 77)).cell? ⟨B,0,none⟩=some (.int .i64 g1):=hB1.c rfl;have c1:(w.alloc (.cells #[.int .i64 x,.int .i64 y] 77)).cell? ⟨B,1,none⟩=some (.int .i64 g2):=hB1.c rfl;go_enter Tryz.func126,Tryz.ntmps126;by_cases h1:x=g1
 ·subst h1
  by_cases h2:y=g2
  ·subst h2
   go_wp2
   go_ret
   exact⟨by simp,hBw⟩
  ·go_wp2
   go_ret
   exact⟨by simp[h2],hBw⟩
 ·go_wp2
  go_ret
  exact⟨by simp[h1],hBw⟩
theorem uN(g B cap t:Nat)(rs rj:List (Int×Int))(g1 g2:Int)(w:World)(hg:IsC w g (cO (rs++rj)) 77)(hB:IsC w B #[.int .i64 g1,.int .i64 g2] 77)(ht:t<rs.length)(he:rs.getD t (0,0)=(g1,g2))(hne:∀i,i<t→rs.getD i (0,0)≠(g1,g2))(hl:rs.length≤100):
  Calls Tryz.prog 145 #[.slice (some ⟨g,0,none⟩) rs.length cap,.func (.func 126) #[] #[.pointer (some ⟨B,0,none⟩)]] w fun e w'=>e=.returned (.int .i64 t)∧Bl w w':=by
 go_enter Tryz.func145,Tryz.ntmps145
 go_wp2
 go_loopw [8] (fun i wr=>∃k:Nat,k≤t∧i=.int .i64 k∧Bl w wr) (fun i _=>t+1 -(intOf i).toNat)
 case atStart=>exact⟨0,Nat.zero_le _,rfl,bQ _ _⟩
 case round=>
  obtain⟨k,hk,rfl,hb⟩:=hrel;have hki:(k:Int) <(rs.length:Int):=by omega
  have hg':IsC wr g (cO (rs++rj)) 77:=hg.of (hb.block g hg.lt);have hB':IsC wr B #[.int .i64 g1,.int .i64 g2] 77:=hB.of (hb.block B hB.lt);obtain⟨c1,c2⟩:=jQ hg' (i:=k) (by simp;omega);have e1:(rs++rj).getD k (0,0)=rs.getD k (0,0):=by rw[gD,List.getElem?_append_left (by omega),←gD]
  rw[e1]at c1 c2;obtain⟨⟨x,y⟩,hxy⟩:∃xy,rs.getD k (0,0)=xy:=⟨_,rfl⟩;rw[hxy]at c1 c2;simp only at c1 c2;clear e1;by_cases hkt:k=t
  ·subst hkt
   rw[he]at hxy;cases hxy;go_wp2_with fail;refine(mO g1 g2 g1 g2 B wr hB').mono ?_;rintro e w2 ⟨rfl,hb2⟩;have hdt:decide ((g1,g2)=(g1,g2))=true:=by simp
   rw[hdt];go_wp2;go_ret;exact⟨rfl,hb.trans (hb2.mono hb.size)⟩
  ·have hn:=hne k (by omega)
   rw[hxy]at hn;go_wp2_with fail;refine(mO x y g1 g2 B wr hB').mono ?_;rintro e w2 ⟨rfl,hb2⟩;have hdt:decide ((x,y)=(g1,g2))=false:=by simpa using hn
   rw[hdt];clear hdt hn;go_wp2;go_roundw
   case rel=>exact⟨k+1,by omega,by go_num,hb.trans (hb2.mono hb.size)⟩
   case measure=>simp[intOf];omega
theorem tX(w:World)(ty:TypeId)(b o n cap:Nat)(hn:0<n)(hc:∀j,j<n*2→(w.cell? ⟨b,o+j,none⟩).isSome=true)(hf:∀j,j<n*2→w.frozen? ⟨b,o+j,none⟩=false):
  (Builtin.clear_ #[55] ty #[.slice (some ⟨b,o,none⟩) n cap]).run Tryz.prog w=.ok (.tuple #[]) (w.setCells b o ((List.replicate n t0).flatMap aS)):=by
 have hl:((List.replicate n t0).flatMap aS).length=n*2:=by rw[bL];simp
 have hst:=run_storeCells_cells (P:=Tryz.prog) b o ((List.replicate n t0).flatMap aS) 0 w (by rw[hl];simpa using hc) (by rw[hl];simpa using hf) (lM _);obtain⟨i,hi,h3,_,hz⟩:=aCN;have hz':(zeroValue 77).run Tryz.prog w=.ok (.agg #[.int .i64 0,.int .i64 0]) w:=by
  simp[zeroValue,typeInfo,hi,hz]
 have hcl:(Value.agg #[.int .i64 0,.int .i64 0]).cells=#[.int .i64 0,.int .i64 0]:=by kernel_rfl
 have hzc:(Builtin.zeroCells (Value.agg #[.int .i64 0,.int .i64 0]).cells n).toList=(List.replicate n t0).flatMap aS:=by rw[hcl,aGY]
 generalize (Value.agg #[.int .i64 0,.int .i64 0])=Z at hz' hzc;generalize (List.replicate n t0).flatMap aS=L at *;obtain⟨m,rfl⟩:∃m,n=m+1:=⟨n-1,by omega⟩;simp at hst;simp[Builtin.clear_,run_underlying Tryz.underlying55,hz',hzc,hst]
theorem vQ(l:List (Int×Int))(t:Nat)(x y:Int)(ht:t<l.length):((cO l).setIfInBounds (t*2) (.int .i64 x)).setIfInBounds (t*2+1) (.int .i64 y)=cO (l.set t (x,y)):=by
 have key:∀(l:List (Int×Int)) (t:Nat),t<l.length→((l.flatMap aS).set (t*2) (.int .i64 x)).set (t*2+1) (.int .i64 y)=(l.set t (x,y)).flatMap aS:=by
  intro l;induction l with
  | nil=>intro t ht;simp at ht
  | cons e l ih=>
   intro t ht;have l2:(aS e).length=2:=rfl;cases t with
   | zero=>simp[aS]
   | succ t=>
    simp only[List.flatMap_cons,List.set_cons_succ];rw[List.set_append_right _ _ (by rw[l2];omega),l2,List.set_append_right _ _ (by rw[l2];omega),l2,show(t+1)*2-2=t*2 by omega,show(t+1)*2+1-2=t*2+1 by omega,ih t (by simpa using ht)]
 unfold cO;rw[←key l t ht];simp
def sh(rs:List (Int×Int))(t m:Nat):List (Int×Int):=(delE rs t).take (t+m)++rs.drop (t+m)
theorem aAJ(rs:List (Int×Int)){t m:Nat}(ht:t<rs.length)(hm:t+m+1≤rs.length):(sh rs t m).length=rs.length:=by
 have:=bI rs t ht
 unfold sh;simp only[lP,List.length_take,List.length_drop];omega
theorem aML(rs:List (Int×Int)){t:Nat}(ht:t<rs.length):sh rs t 0=rs:=by
 unfold sh delE;rw[Nat.add_zero,List.take_append,List.length_take,show t-min t rs.length=0 by omega,List.take_take,show min t t=t by omega];simp
theorem aIE{l l':List (Int×Int)}(h:l.length=l'.length)(h2:∀j,j<l.length→l.getD j (0,0)=l'.getD j (0,0)):l=l':=by
 refine List.ext_getElem h fun i h1 h3=>?_;have:=h2 i h1;rw[gD,gD,gE h1,gE h3]at this;exact this
theorem aBE(rs:List (Int×Int)){t m:Nat}(ht:t<rs.length)(hm:t+m+1≤rs.length)(j:Nat):(sh rs t m).getD j (0,0)=if j<t then rs.getD j (0,0)else if j<t+m then rs.getD (j+1) (0,0)else rs.getD j (0,0):=by
 have hl:=bI rs t ht;unfold sh;rw[gD];by_cases h1:j<t+m
 ·rw[List.getElem?_append_left (by rw[List.length_take];omega),List.getElem?_take,if_pos h1,←gD,gZ _ _ _ (by omega)]
  by_cases h2:j<t
  ·rw[if_pos h2,if_pos h2]
  ·rw[if_neg h2,if_neg h2,if_pos h1]
 ·rw[List.getElem?_append_right (by rw[List.length_take];omega),List.length_take,show min (t+m) (delE rs t).length=t+m by omega,List.getElem?_drop,show t+m+(j -(t+m))=j by omega,←gD,if_neg (by omega),if_neg h1]
theorem aJQ(rs:List (Int×Int)){t m:Nat}(ht:t<rs.length)(hm:t+m+1<rs.length):(sh rs t m).set (t+m) (rs.getD (t+m+1) (0,0))=sh rs t (m+1):=by
 have h1:=aAJ rs (m:=m) ht (by omega);have h2:=aAJ rs (m:=m+1) ht (by omega);refine aIE (by simp;omega) fun j hj=>?_;rw[bA _ _ _ _ _ (by omega),aBE rs ht (by omega),aBE rs ht (by omega)];by_cases e:j=t+m
 ·rw[if_pos e,if_neg (by omega),if_pos (by omega),e]
 ·rw[if_neg e]
  by_cases e1:j<t
  ·rw[if_pos e1,if_pos e1]
  ·rw[if_neg e1,if_neg e1]
   by_cases e2:j<t+m
   ·rw[if_pos e2,if_pos (by omega)]
   ·rw[if_neg e2,if_neg (by omega)]
theorem aLB(rs:List (Int×Int)){t:Nat}(ht:t<rs.length)(rj:List (Int×Int)):(sh rs t (rs.length-1-t)++rj).set (rs.length-1) (0,0)=delE rs t++((0,0) :: rj):=by
 have hl:=bI rs t ht;unfold sh;rw[show t+(rs.length-1-t)=rs.length-1 by omega,List.take_of_length_le (by omega),List.append_assoc,List.set_append_right _ _ (by omega),show rs.length-1 -(delE rs t).length=0 by omega];have:rs.drop (rs.length-1)=[rs.getD (rs.length-1) (0,0)]:=by
  have hl':rs.length-1<rs.length:=by omega
  rw[List.drop_eq_getElem_cons hl',List.drop_of_length_le (by omega),gD,gE hl'];rfl
 rw[this];rfl
theorem tM(g B t:Nat)(rs rj:List (Int×Int))(g1 g2:Int)(w:World)(hg:IsC w g (cO (rs++rj)) 77)(hB:IsC w B #[.int .i64 g1,.int .i64 g2] 77)(hgB:g≠B)(ht:t<rs.length)(he:rs.getD t (0,0)=(g1,g2))(hne:∀i,i<rs.length→i≠t→rs.getD i (0,0)≠(g1,g2))(hl:rs.length≤100)(hm:rs.length+rj.length≤maxLen):
  Calls Tryz.prog 125 #[.slice (some ⟨g,0,none⟩) rs.length (rs.length+rj.length),.func (.func 126) #[] #[.pointer (some ⟨B,0,none⟩)]] w fun e w'=>e=.returned (.slice (some ⟨g,0,none⟩) (rs.length-1) (rs.length+rj.length))∧IsC w' g (cO (delE rs t++((0,0) :: rj))) 77∧Frm (fun k=>k=g) w w':=by
 have hm':rs.length+rj.length≤9223372036854775807:=by simp[maxLen]at hm;omega
 go_enter Tryz.func125,Tryz.ntmps125
 go_wp2_with fail
 refine(uN g B _ t rs rj g1 g2 w hg hB ht he (fun i hi=>hne i (by omega) (by omega)) hl).mono ?_;rintro e w1 ⟨rfl,hb1⟩;have hg1':IsC w1 g (cO (rs++rj)) 77:=hg.of (hb1.block g hg.lt);have hB1:IsC w1 B #[.int .i64 g1,.int .i64 g2] 77:=hB.of (hb1.block B hB.lt);have htn:¬((t:Int)=-1):=by omega
 have hwt:IntKind.i64.wrap ((t:Int)+1)=((t+1:Nat):Int):=(IntWalk.i64_in _ ⟨by omega,by omega⟩).trans (by omega);have hti:(-1:Int) <(t:Int):=by omega
 go_wp2
 go_loopw [5,6] (fun u v wr=>∃m:Nat,t+m+1≤rs.length∧u=.int .i64 (t+m:Nat)∧v=.int .i64 (t+m+1:Nat)∧IsC wr g (cO (sh rs t m++rj)) 77∧IsC wr B #[.int .i64 g1,.int .i64 g2] 77∧Frm (fun k=>k=g) w wr) (fun _ v _=>rs.length -(intOf v).toNat)
 case atStart=>exact⟨0,by omega,by simp,by simp,by rw[aML rs ht];exact hg1',hB1,Frm.of_below hb1⟩
 case round=>
  obtain⟨m,hm1,rfl,rfl,hgm,hBm,hF⟩:=hrel;have hshl:=aAJ rs (m:=m) ht hm1;by_cases hlt:t+m+1<rs.length
  ·have hji:((t+m+1:Nat):Int) <(rs.length:Int):=by omega
   have hii:((t+m:Nat):Int) <(rs.length:Int):=by omega
   obtain⟨c1,c2⟩:=jQ hgm (i:=t+m+1) (by simp;omega);have e1:(sh rs t m++rj).getD (t+m+1) (0,0)=rs.getD (t+m+1) (0,0):=by
    rw[gD,List.getElem?_append_left (by omega),←gD,aBE rs ht hm1,if_neg (by omega),if_neg (by omega)]
   rw[e1]at c1 c2;obtain⟨⟨x,y⟩,hxy⟩:∃xy,rs.getD (t+m+1) (0,0)=xy:=⟨_,rfl⟩;rw[hxy]at c1 c2;simp only at c1 c2;have hn:=hne (t+m+1) hlt (by omega);rw[hxy]at hn;have hst:=aJQ rs ht hlt;rw[hxy]at hst;have HX:=aA (aI hxy (aI hn hst));clear hxy hn hst e1;obtain⟨ji,hjI⟩:=eZ (t+m+1);obtain⟨ii,hiI⟩:=eZ (t+m);have HI:=aA (aI hjI hiI);rw[hjI]at c1 c2 hji ⊢;rw[hiI]at hii ⊢;clear hjI hiI;obtain⟨W2,hW2⟩:=eZ (wr.alloc (.cells #[.int .i64 x,.int .i64 y] 77));obtain⟨V,hV⟩:=eZ (wr.heap.size);have hb2:=bAl hW2;have hVx:=iNw hW2 hV;have v1:W2.cell? ⟨V,0,none⟩=some (.int .i64 x):=hVx.c rfl;have v2:W2.cell? ⟨V,1,none⟩=some (.int .i64 y):=hVx.c rfl;have hB2:IsC W2 B #[.int .i64 g1,.int .i64 g2] 77:=hBm.of (hb2.block B hBm.lt);go_wp2_with fail;refine(mO x y g1 g2 B W2 hB2).mono ?_;rintro e W3 ⟨rfl,hb3⟩;have hdt:decide ((x,y)=(g1,g2))=false:=by simpa using HX.out.2.1
   rw[hdt];have hg3:IsC W3 g (cO (sh rs t m++rj)) 77:=(hgm.of (hb2.block g hgm.lt)).of (hb3.block g (lL hgm.lt hb2.size));have hB3:IsC W3 B #[.int .i64 g1,.int .i64 g2] 77:=hB2.of (hb3.block B hB2.lt);have hV3:IsC W3 V #[.int .i64 x,.int .i64 y] 77:=hVx.of (hb3.block V hVx.lt);have y1:W3.cell? ⟨V,0,none⟩=some (.int .i64 x):=hV3.c rfl;have y2:W3.cell? ⟨V,1,none⟩=some (.int .i64 y):=hV3.c rfl;obtain⟨z1,z2⟩:=jQ hg3 (i:=ii) (by simp;omega);have f1:=hg3.frozen (ii*2);have f2:=hg3.frozen (ii*2+1);have hF3:Frm (fun k=>k=g) w ((W3.setCell ⟨g,ii*2,none⟩ (.int .i64 x)).setCell ⟨g,ii*2+1,none⟩ (.int .i64 y)):=(((hF.trans (Frm.of_below hb2)).trans (Frm.of_below hb3)).trans (Frm.set (S:=fun k=>k=g) W3 (p:=⟨g,ii*2,none⟩) rfl _)).trans (Frm.set (S:=fun k=>k=g) _ (p:=⟨g,ii*2+1,none⟩) rfl _);have hB4:IsC ((W3.setCell ⟨g,ii*2,none⟩ (.int .i64 x)).setCell ⟨g,ii*2+1,none⟩ (.int .i64 y)) B #[.int .i64 g1,.int .i64 g2] 77:=(hB3.set_ne _ (Ne.symm hgB)).set_ne _ (Ne.symm hgB);have hg4:IsC ((W3.setCell ⟨g,ii*2,none⟩ (.int .i64 x)).setCell ⟨g,ii*2+1,none⟩ (.int .i64 y)) g (cO (sh rs t (m+1)++rj)) 77:=by
    have h5:=(hg3.set (ii*2) (.int .i64 x)).set (ii*2+1) (.int .i64 y);have hiL:ii <(sh rs t m).length:=by rw[hshl];omega
    rw[vQ _ ii x y (by rw[lP];omega),List.set_append_left _ _ hiL,←HI.out.2,HX.out.2.2]at h5;rw[←HI.out.2];exact h5
   have HF:=aA (aI hg4 (aI hB4 hF3));have hjr:ii+1=t+(m+1)∧ji+1=t+(m+1)+1:=by have:=HI.out;omega
   have HJ:=aA hjr;clear hdt hb2 c1 c2 v1 v2 hW2 hV hF3 hB4 hg4 hjr;go_wp2;go_roundw
   case rel=>
    obtain⟨hg4,hB4,hF3⟩:=HF.out;obtain⟨j1,j2⟩:=HJ.out;exact⟨_,_,_,_,_,_,_,_,_,_,_,_,_,_,_,_,_,_,_,_,_,_,_,⟨m+1,by omega,by rw[←j1];go_num,by rw[←j2];go_num,hg4,hB4,hF3⟩,rfl⟩
   case measure=>simp[intOf];omega
  ·have hmE:m=rs.length-1-t:=by omega
   have hii:t+m=rs.length-1:=by omega
   have hjj:t+m+1=rs.length:=by omega
   obtain⟨lo,hlo⟩:∃lo,lo=rs.length-1:=⟨_,rfl⟩;have hgm':IsC wr g (cO (sh rs t (rs.length-1-t)++rj)) 77:=by rw[←hmE];exact hgm
   have hcl:=tX (n:=1) (b:=g) (o:=lo*2) wr;have hcl2:∀ty c,(Builtin.clear_ #[55] ty #[.slice (some ⟨g,lo*2,none⟩) 1 c]).run Tryz.prog wr=.ok (.tuple #[]) (wr.setCells g (lo*2) ((List.replicate 1 t0).flatMap aS)):=fun ty c=>
    tX wr ty g (lo*2) 1 c (by omega) (fun k hk=>by rw[hgm.cell,Array.getElem?_eq_getElem (by rw[vG,lP,hshl];omega)];rfl) (fun k hk=>hgm.frozen _)
   clear hcl;have hsets:wr.setCells g (lo*2) ((List.replicate 1 t0).flatMap aS)=(wr.setCell ⟨g,lo*2,none⟩ (.int .i64 0)).setCell ⟨g,lo*2+1,none⟩ (.int .i64 0):=rfl;have hgf:IsC (wr.setCells g (lo*2) ((List.replicate 1 t0).flatMap aS)) g (cO (delE rs t++((0,0) :: rj))) 77:=by
    rw[hsets];have h5:=(hgm'.set (lo*2) (.int .i64 0)).set (lo*2+1) (.int .i64 0);rw[vQ _ lo 0 0 (by rw[lP,←hmE,hshl];omega),hlo,aLB rs ht rj]at h5;rw[hlo];exact h5
   have hFf:Frm (fun k=>k=g) w (wr.setCells g (lo*2) ((List.replicate 1 t0).flatMap aS)):=hF.trans (Frm.sets (S:=fun k=>k=g) wr rfl _ _);rw[hjj,hii,←hlo];have HF:=aA (aI hgf hFf);have HL:=aA hlo;obtain⟨Wf,hWf⟩:=eZ (wr.setCells g (lo*2) ((List.replicate 1 t0).flatMap aS));rw[hWf]at hcl2 HF;have q1:¬rs.length+rj.length=lo:=by omega
   have q2:(lo:Int)≤(rs.length:Int):=by omega
   have q3:(rs.length:Int)≤(rs.length:Int)+(rj.length:Int):=by omega
   have q4:rs.length-lo=1:=by omega
   have q5:lo≤rs.length+rj.length:=by omega
   have q6:(lo:Int)≤(rs.length:Int)+(rj.length:Int):=by omega
   clear hgf hFf hsets hgm' hgm hWf hlo hii hjj hmE;go_wp2;go_ret;obtain⟨hgf,hFf⟩:=HF.out;rw[←HL.out];exact⟨rfl,hgf,hFf⟩
structure DpP(w:World)(ρ:Nat→Nat)(P:Nat)(J:List aR)(r:fZ×Int)(e:Ending)(w':World):Prop where
 e:e=.returned (.int .i64 r.2)
 ex:∃ρ' A',St w' ρ' P A' r.1 J∧Mv (fun _=>False) w ρ w' ρ'
theorem aIZ{K:Int}(w:World)(ρ:Nat→Nat)(P:Nat)(A:Adr)(f:fZ)(J:List aR)(t H:Nat)(x:Int)(h:St w ρ P A f J)(hI:Inv f)(hz:Sz K f)(hK:K≤900000)(ht:t<f.roots.length)(hk:Ok f.nodes H (aB f t) none none)(hx:f.roots.getD t (0,0)=(x,(aB f t:Int))):
  Calls Tryz.prog 104 #[.pointer (some ⟨P,0,none⟩),.agg #[.int .i64 x,.int .i64 (aB f t)]] w (DpP w ρ P J (drop f t H)):=by
 have hmf:∀(fn:Fn) (first cap:Array Value) (w:World),(Instr.makeFunc fn first cap).run Tryz.prog w=.ok (.func fn first cap) w:=fun _ _ _ _=>rfl;obtain⟨B,hB⟩:=eZ (w.heap.size);obtain⟨w0,hw0⟩:=eZ (w.alloc (.cells #[.int .i64 x,.int .i64 (aB f t)] 77));have hB0:Bl w w0:=by rw[←hw0];exact(bQ w.heap.size w).alloc (nR _) _
 have hbx:=iNw hw0 hB;have hS0:=h.below hB0;obtain⟨ja,jp,jj,hR,hJ⟩:=id hS0;have hρB:ρ B=0:=Nat.eq_zero_of_not_pos fun q=>by
  obtain⟨_,_,_,hR',_⟩:=id h;have:=hR'.own B (by omega);omega
 have hraB:A.ra≠B:=fun e=>by have:=hR.rr;rw[e,hρB]at this;omega
 have r0:w0.cell? ⟨P,0,none⟩=some (.slice (some ⟨A.ra,0,none⟩) f.roots.length (f.roots.length+A.rj.length)):=by rw[hR.hP.cell];rfl
 have h16:=hI.r16;have hld:=bI f.roots t ht;have hraP:A.ra≠P:=fun e=>by have e1:=hR.rr;have e2:=hR.rP;rw[e]at e1;omega
 have hPB:B≠P:=fun e=>by have e2:=hR.rP;rw[←e,hρB]at e2;omega
 have HE:=aA (aI hB hw0);go_enter Tryz.func104,Tryz.ntmps104;go_wp2_with fail;refine(tM A.ra B t f.roots A.rj x (aB f t) w0 hR.hr hbx hraB ht hx (fun i hi hne=>by rw[←hx];exact zC hI ht hi hne) (by omega) hR.rs).mono ?_;rintro e w1 ⟨rfl,hg1,hF1⟩;obtain⟨hS2,hM2⟩:=hS0.setRoots hF1 hg1 (.inl rfl) (by have:=hR.rs;simp only[List.length_cons];omega);have hro:oF ρ A.ra=ρ:=funext fun y=>by
  unfold oF;split
  ·rename_i e;rw[e];exact hR.rr.symm
  ·rfl
 rw[hro]at hS2 hM2;have hlen:(delE f.roots t).length+((0,0) :: A.rj:List (Int×Int)).length=f.roots.length+A.rj.length:=by rw[hld];simp only[List.length_cons];omega
 rw[hlen,hld]at hS2 hM2;have hP1:IsC w1 P _ _:=hR.hP.frm hF1 (fun e=>hraP e.symm);have r1:w1.cell? ⟨P,0,none⟩=some (.slice (some ⟨A.ra,0,none⟩) f.roots.length (f.roots.length+A.rj.length)):=hP1.c rfl;have z1:=hP1.frozen 0;have hbx2:IsC (w1.setCell ⟨P,0,none⟩ (.slice (some ⟨A.ra,0,none⟩) (f.roots.length-1) (f.roots.length+A.rj.length))) B #[.int .i64 x,.int .i64 (aB f t)] 77:=(hbx.frm hF1 (Ne.symm hraB)).set_ne _ hPB;have b2:(w1.setCell ⟨P,0,none⟩ (.slice (some ⟨A.ra,0,none⟩) (f.roots.length-1) (f.roots.length+A.rj.length))).cell? ⟨B,1,none⟩=some (.int .i64 (aB f t)):=hbx2.c rfl;have hM2':Mv (fun _=>False) w ρ (w1.setCell ⟨P,0,none⟩ (.slice (some ⟨A.ra,0,none⟩) (f.roots.length-1) (f.roots.length+A.rj.length))) ρ:=((Mv.of_below (X:=fun y=>y=A.ra∧ρ y=0) hB0).trans hM2 (fun _ _ e=>e)).up fun y _ e=>by
  obtain⟨e1,e2⟩:=e;rw[e1,hR.rr]at e2;omega
 have huc:=aJY hI ht hk;have hzd:Sz K (fM f t):=hz.of rfl rfl hz.cb fun _ _ q=>.inl q;obtain⟨w2,hw2⟩:=eZ (w1.setCell ⟨P,0,none⟩ (.slice (some ⟨A.ra,0,none⟩) (f.roots.length-1) (f.roots.length+A.rj.length)));rw[hw2]at hS2 hM2 hM2' b2 hbx2;go_wp2_with fail;refine(aEX hK H w2 ρ P {A with ra:=A.ra,rj:=(0,0) :: A.rj} (fM f t) J (aB f t) hS2 hzd huc).mono ?_;rintro e w3 ⟨rfl,⟨φ',hS3⟩,hF3⟩;have hMf:Mv (fun _=>False) w ρ w3 ρ:=by
  refine hM2'.trans (Y:=fun _=>False) ⟨hF3.wide fun y _ e=>.inl ?_,fun _ _ _=>rfl⟩ (fun _ _ e=>e);rcases e with e | e
  ·rw[e];have:=hR.rc;show ρ A.c≠0;omega
  ·rw[e];have:=hR.rm;show ρ A.m≠0;omega
 have HF:=aA (aI hS3 hMf);clear hS3 hMf hF3;go_wp2;go_ret;exact⟨rfl,ρ,_,HF.out.1,HF.out.2⟩
end Go.Proofs.YtaahkgkdpnnhhaaGreat
namespace Go.Proofs.YtaahkgkdpnnhhaaGreat
open Go.RowKit Fo
def RdT(w:World)(v:Value)(rs:List (Int×Int)):Prop:=
 ∃a cap,v=.slice a rs.length cap∧(0<rs.length→∃b off,a=some ⟨b,off,none⟩∧∀i,i<rs.length→w.cell? ⟨b,off+i*2,none⟩=some (.int .i64 (rs.getD i (0,0)).1)∧w.cell? ⟨b,off+i*2+1,none⟩=some (.int .i64 (rs.getD i (0,0)).2))
theorem RdT.of{w:World}{g cap:Nat}{rs rj:List (Int×Int)}(h:IsC w g (cO (rs++rj)) 77):RdT w (.slice (some ⟨g,0,none⟩) rs.length cap) rs:=
 ⟨_,cap,rfl,fun _=>⟨g,0,rfl,fun i hi=>by
  have:=jQ h (i:=i) (by simp;omega)
  rw[gD,List.getElem?_append_left hi,←gD]at this;simpa using this⟩⟩
def qF(x y:Int):Int:=if x<y then -1 else if x>y then 1 else 0
theorem vK(x:Int)(w:World):Calls Tryz.prog 107 #[.int .i64 x] w fun e w'=>e=.returned (.bool false)∧w=w':=by
 have h:(x != x)=false:=by simp
 go_enter Tryz.func107,Tryz.ntmps107
 go_wp2
 go_ret
 exact⟨rfl,rfl⟩
theorem yC(x y:Int)(w:World):Calls Tryz.prog 81 #[.int .i64 x,.int .i64 y] w fun e w'=>e=.returned (.int .i64 (qF x y))∧w=w':=by
 have HC:Hid (qF x y=if x<y then -1 else if x>y then 1 else 0):=rfl;go_enter Tryz.func81,Tryz.ntmps81;go_wp2_with fail;refine(vK _ _).mono ?_;rintro e w1 ⟨rfl,rfl⟩;go_wp2_with fail;refine(vK _ _).mono ?_;rintro e w1 ⟨rfl,rfl⟩;by_cases h1:x<y
 ·have HE:Hid (qF x y=-1):=by rw[HC.out,if_pos h1];rfl
  go_wp2
  go_ret
  exact⟨by rw[HE.out];rfl,rfl⟩
 ·by_cases h2:y<x
  ·have HE:Hid (qF x y=1):=by rw[HC.out,if_neg h1,if_pos h2];rfl
   go_wp2
   go_ret
   exact⟨by rw[HE.out];rfl,rfl⟩
  ·have HE:Hid (qF x y=0):=by rw[HC.out,if_neg h1,if_neg h2];rfl
   go_wp2
   go_ret
   exact⟨by rw[HE.out];rfl,rfl⟩
theorem xF(x y:Int)(w:World):Calls Tryz.prog 192 #[.agg #[.int .i64 x,.int .i64 y]] w fun e w'=>e=.returned (.int .i64 x)∧Bl w w':=by
 have hB:=(bQ w.heap.size w).alloc (nR _) (.cells #[.int .i64 x,.int .i64 y] 77);go_enter Tryz.func192,Tryz.ntmps192;go_wp2;go_ret;exact⟨rfl,hB⟩
theorem rW(v:Value)(w:World):(Go.method 344 77 v "loop.example/s01595/impl.sortKey").run Tryz.prog w=.ok (192,v) w:=by kernel_rfl
theorem nP(x y k:Int)(w:World):Calls Tryz.prog 80 #[.agg #[.int .i64 x,.int .i64 y],.int .i64 k] w fun e w'=>e=.returned (.int .i64 (qF x k))∧Bl w w':=by
 have hB:=(bQ w.heap.size w).alloc (nR _) (.cells #[.int .i64 x,.int .i64 y] 77);have mS:=rW;go_enter Tryz.func80,Tryz.ntmps80;go_wp2_with fail;refine(xF x y _).mono ?_;rintro e w1 ⟨rfl,hb1⟩;have hB1:=hB.trans (hb1.mono hB.size);clear hb1;go_wp2_with fail;refine(yC _ _ _).mono ?_;rintro e w2 ⟨rfl,rfl⟩;go_wp2;go_ret;exact⟨rfl,hB1⟩
def aHB(rs:List (Int×Int)):Prop:=∀i j,i≤j→j<rs.length→(rs.getD i (0,0)).1≤(rs.getD j (0,0)).1
def aHJ(rs:List (Int×Int))(key:Int)(e:Ending):Prop:=∃i:Nat,∃b,e=.returned (.tuple #[.int .i64 i,.bool b])∧i≤rs.length∧(∀a,a<i→(rs.getD a (0,0)).1<key)∧(∀a,i≤a→a<rs.length→key≤(rs.getD a (0,0)).1)∧(b=true↔i<rs.length∧(rs.getD i (0,0)).1=key)
theorem aAB(v:Value)(rs:List (Int×Int))(key:Int)(w:World)(hv:RdT w v rs)(hn:rs.length≤1048576)(hm:aHB rs):
  Calls Tryz.prog 79 #[v,.int .i64 key,.func (.func 80) #[] #[]] w fun e w'=>Bl w w'∧aHJ rs key e:=by
 obtain⟨a,cap,rfl,hc⟩:=hv;go_enter Tryz.func79,Tryz.ntmps79;go_wp2;go_loopw [9,10] (fun u v wr=>∃i j:Nat,i≤j∧j≤rs.length∧u=.int .i64 i∧v=.int .i64 j∧Bl w wr∧(∀a,a<i→(rs.getD a (0,0)).1<key)∧∀a,j≤a→a<rs.length→key≤(rs.getD a (0,0)).1) (fun u v _=>(intOf v).toNat -(intOf u).toNat)
 case atStart=>exact⟨0,rs.length,Nat.zero_le _,nR _,rfl,rfl,bQ _ _,fun a ha=>by omega,fun a h1 h2=>by omega⟩
 case round=>
  obtain⟨i,j,hij,hj,rfl,rfl,hb,hlo,hhi⟩:=hrel;by_cases hlt:i<j
  ·obtain⟨b,off,rfl,hcell⟩:=hc (by omega)
   have hh1:i≤(i+j) / 2∧(i+j) / 2<j:=by omega
   obtain⟨g1,g2⟩:=hcell ((i+j) / 2) (by omega);have hbw:b<w.heap.size:=World.block_lt_of_cell? _ _ g1;rw[←hb.cell (p:=⟨b,off+(i+j) / 2*2,none⟩) hbw]at g1;rw[←hb.cell (p:=⟨b,off+(i+j) / 2*2+1,none⟩) hbw]at g2;have hlt':(i:Int) <(j:Int):=by omega
   obtain⟨p,HP⟩:∃p,Hid (rs.getD ((i+j) / 2) (0,0)=p):=⟨_,rfl⟩;rw[HP.out]at g1 g2;obtain⟨x,y⟩:=p;simp only at g1 g2;have HLO:Hid (∀a,a<i→(rs.getD a (0,0)).1<key):=hlo;have HHI:Hid (∀a,j≤a→a<rs.length→key≤(rs.getD a (0,0)).1):=hhi;clear hc hcell hlo hhi;go_wp2_with fail;refine(nP x y key _).mono ?_;rintro e w1 ⟨rfl,hb1⟩;have hb2:=hb.trans (hb1.mono hb.size);have HC:Hid (qF x key=if x<key then -1 else if x>key then 1 else 0):=rfl;clear g1 g2 hb1 hb;by_cases hx:x<key
   ·rw[HC.out,if_pos hx]
    have HL2:Hid (∀a,a <(i+j) / 2+1→(rs.getD a (0,0)).1<key):=fun a ha=>by
     have:=hm a ((i+j) / 2) (by omega) (by omega)
     rw[HP.out]at this;simp only at this;omega
    go_wp2
    go_roundw
    case rel=>exact⟨(i+j) / 2+1,j,by omega,hj,by go_num,rfl,hb2,HL2.out,HHI.out⟩
    case measure=>simp[intOf];omega
   ·have hcn:¬qF x key<0:=by rw[HC.out,if_neg hx];split<;>omega
    have HH2:Hid (∀a,(i+j) / 2≤a→a<rs.length→key≤(rs.getD a (0,0)).1):=fun a h1 h2=>by
     have:=hm ((i+j) / 2) a h1 h2
     rw[HP.out]at this;simp only at this;omega
    generalize qF x key=cv at *;clear hx;go_wp2;go_roundw
    case rel=>exact⟨i,(i+j) / 2,by omega,by omega,rfl,by go_num,hb2,HLO.out,HH2.out⟩
    case measure=>simp[intOf];omega
  ·have hije:i=j:=by omega
   subst hije;have HLO:Hid (∀a,a<i→(rs.getD a (0,0)).1<key):=hlo;have HHI:Hid (∀a,i≤a→a<rs.length→key≤(rs.getD a (0,0)).1):=hhi;clear hlo hhi;by_cases hin:i<rs.length
   ·obtain⟨b,off,rfl,hcell⟩:=hc (by omega)
    obtain⟨g1,g2⟩:=hcell i hin;have hbw:b<w.heap.size:=World.block_lt_of_cell? _ _ g1;rw[←hb.cell (p:=⟨b,off+i*2,none⟩) hbw]at g1;rw[←hb.cell (p:=⟨b,off+i*2+1,none⟩) hbw]at g2;have hin':(i:Int) <(rs.length:Int):=by omega
    obtain⟨p,HP⟩:∃p,Hid (rs.getD i (0,0)=p):=⟨_,rfl⟩;rw[HP.out]at g1 g2;obtain⟨x,y⟩:=p;simp only at g1 g2;clear hc hcell;go_wp2_with fail;refine(nP x y key _).mono ?_;rintro e w1 ⟨rfl,hb1⟩;have hb2:=hb.trans (hb1.mono hb.size);have HB:Hid ((qF x key == 0)=true↔i<rs.length∧(rs.getD i (0,0)).1=key):=by
     show _↔_
     rw[HP.out];unfold qF;split
     ·simp;omega
     ·split
      ·simp;omega
      ·simp;omega
    generalize qF x key=cv at *;clear g1 g2 hb1 hb;go_wp2;exact bodyPost_ret (v:=.tuple #[.int .i64 i,.bool (cv == 0)]) (by simp[results,Tryz.results79,go_sem]) rfl ⟨hb2,i,_,rfl,hj,HLO.out,HHI.out,HB.out⟩
   ·clear hc
    have hin':¬(i:Int) <(rs.length:Int):=by omega
    go_wp2
    exact bodyPost_ret (v:=.tuple #[.int .i64 i,.bool false]) (by simp[results,Tryz.results79,go_sem]) rfl ⟨hb,i,_,rfl,hj,HLO.out,HHI.out,by simp;omega⟩
theorem xJ(v:Value)(rs:List (Int×Int))(key:Int)(w:World)(hv:RdT w v rs)(hn:rs.length≤1048576)(hm:aHB rs):
  Calls Tryz.prog 58 #[v,.int .i64 key] w fun e w'=>Bl w w'∧aHJ rs key e:=by
 obtain⟨a,cap,hve,hc⟩:=id hv;subst hve;have hmf:∀(fn:Fn) (first cap:Array Value) (w:World),(Instr.makeFunc fn first cap).run Tryz.prog w=.ok (.func fn first cap) w:=fun _ _ _ _=>rfl;clear hc;go_enter Tryz.func58,Tryz.ntmps58;go_wp2_with fail;refine(aAB _ rs key _ hv hn hm).mono ?_;rintro e w1 ⟨hb1,i,b,rfl,h1,h2,h3,h4⟩;have HS:Hid (aHJ rs key (.returned (.tuple #[.int .i64 i,.bool b]))):=⟨i,b,rfl,h1,h2,h3,h4⟩;clear h1 h2 h3 h4;go_wp2;exact bodyPost_ret (v:=.tuple #[.int .i64 i,.bool b]) (by simp[results,Tryz.results58,go_sem]) rfl ⟨hb1,HS.out⟩
