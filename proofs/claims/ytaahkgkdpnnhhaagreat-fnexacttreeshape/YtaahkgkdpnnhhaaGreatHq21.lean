import Derived.Test.YtaahkgkdpnnhhaaGreatHq16
set_option maxHeartbeats 9999999
set_option maxRecDepth 99999
set_option linter.all false
namespace Go.Proofs.YtaahkgkdpnnhhaaGreat
open Go.RowKit Go.Shelf Fo
variable{m t:Nat}
theorem tG(w:World)(ty:TypeId)(b o n cap:Nat)(hn:0<n)(hc:∀j,j<n*2→(w.cell? ⟨b,o+j,none⟩).isSome=true)(hf:∀j,j<n*2→w.frozen? ⟨b,o+j,none⟩=false):
  (Builtin.clear_ #[55] ty #[.slice (some ⟨b,o,none⟩) n cap]).run Tryz.prog w=.ok (.tuple #[]) (w.setCells b o ((List.replicate n t0).flatMap aT)):=by
 have hl:((List.replicate n t0).flatMap aT).length=n*2:=by rw[bL];simp
 have qk:=run_storeCells_cells (P:=Tryz.prog) b o ((List.replicate n t0).flatMap aT) 0 w (by rw[hl];simpa using hc) (by rw[hl];simpa using hf) (lI _);obtain⟨i,hi,h3,_,hz⟩:=aCN;have ry:(zeroValue 77).run Tryz.prog w=.ok (.agg #[.int .i64 0,.int .i64 0]) w:=by
  simp[zeroValue,typeInfo,hi,hz]
 have au:(Value.agg #[.int .i64 0,.int .i64 0]).cells=#[.int .i64 0,.int .i64 0]:=by kernel_rfl
 have Ng:(Builtin.zeroCells (Value.agg #[.int .i64 0,.int .i64 0]).cells n).toList=(List.replicate n t0).flatMap aT:=by rw[au,aII]
 generalize (Value.agg #[.int .i64 0,.int .i64 0])=Z at ry Ng;generalize (List.replicate n t0).flatMap aT=L at *;obtain⟨m,rfl⟩:∃m,n=m+1:=⟨n-1,by omega⟩;simp at qk;simp[Builtin.clear_,run_underlying Tryz.underlying55,ry,Ng,qk]
theorem vM(l:List (Int×Int))(t:Nat)(x y:Int)(ht:t<l.length):((cT l).setIfInBounds (t*2) (.int .i64 x)).setIfInBounds (t*2+1) (.int .i64 y)=cT (l.set t (x,y)):=by
 have key:∀(l:List (Int×Int)) (t:Nat),t<l.length→((l.flatMap aT).set (t*2) (.int .i64 x)).set (t*2+1) (.int .i64 y)=(l.set t (x,y)).flatMap aT:=by
  intro l;induction l with
  | nil=>intro t ht;simp at ht
  | cons e l ih=>
   intro t ht;have l2:(aT e).length=2:=rfl;cases t with
   | zero=>simp[aT]
   | succ t=>
    simp only[List.flatMap_cons,List.set_cons_succ];rw[List.set_append_right _ _ (by rw[l2];omega),l2,List.set_append_right _ _ (by rw[l2];omega),l2,show(t+1)*2-2=t*2 by omega,show(t+1)*2+1-2=t*2+1 by omega,ih t (by simpa using ht)]
 unfold cT;rw[←key l t ht];simp
def sh(rs:List (Int×Int))(t m:Nat):List (Int×Int):=(delE rs t).take (t+m)++rs.drop (t+m)
theorem aBJ(rs:List (Int×Int))(ht:t<rs.length)(hm:t+m+1≤rs.length):(sh rs t m).length=rs.length:=by
 have:=bH rs t ht
 unfold sh;simp only[lP,List.length_take,List.length_drop];omega
theorem aMO(rs:List (Int×Int))(ht:t<rs.length):sh rs t 0=rs:=by
 unfold sh delE;rw[Nat.add_zero,List.take_append,List.length_take,show t-min t rs.length=0 by omega,List.take_take,show min t t=t by omega];simp
theorem aGM{l l':List (Int×Int)}(h:l.length=l'.length)(h2:∀j,j<l.length→l.getD j (0,0)=l'.getD j (0,0)):l=l':=by
 refine List.ext_getElem h fun i h1 h3=>?_;have:=h2 i h1;rw[gD,gD,gE h1,gE h3]at this;exact this
theorem aBI(rs:List (Int×Int))(ht:t<rs.length)(hm:t+m+1≤rs.length)(j:Nat):(sh rs t m).getD j (0,0)=if j<t then rs.getD j (0,0)else if j<t+m then rs.getD (j+1) (0,0)else rs.getD j (0,0):=by
 have hl:=bH rs t ht;unfold sh;rw[gD];by_cases h1:j<t+m
 ·rw[List.getElem?_append_left (by rw[List.length_take];omega),List.getElem?_take,if_pos h1,←gD,iG _ _ _ (by omega)]
  by_cases h2:j<t
  ·rw[if_pos h2,if_pos h2]
  ·rw[if_neg h2,if_neg h2,if_pos h1]
 ·rw[List.getElem?_append_right (by rw[List.length_take];omega),List.length_take,show min (t+m) (delE rs t).length=t+m by omega,List.getElem?_drop,show t+m+(j -(t+m))=j by omega,←gD,if_neg (by omega),if_neg h1]
theorem aJZ(rs:List (Int×Int))(ht:t<rs.length)(hm:t+m+1<rs.length):(sh rs t m).set (t+m) (rs.getD (t+m+1) (0,0))=sh rs t (m+1):=by
 have h1:=aBJ rs (m:=m) ht (by omega);have h2:=aBJ rs (m:=m+1) ht (by omega);refine aGM (by simp;omega) fun j hj=>?_;rw[bA _ _ _ _ _ (by omega),aBI rs ht (by omega),aBI rs ht (by omega)];by_cases e:j=t+m
 ·rw[if_pos e,if_neg (by omega),if_pos (by omega),e]
 ·rw[if_neg e]
  by_cases e1:j<t
  ·rw[if_pos e1,if_pos e1]
  ·rw[if_neg e1,if_neg e1]
   by_cases e2:j<t+m
   ·rw[if_pos e2,if_pos (by omega)]
   ·rw[if_neg e2,if_neg (by omega)]
theorem aLQ(rs:List (Int×Int))(ht:t<rs.length)(rj:List (Int×Int)):(sh rs t (rs.length-1-t)++rj).set (rs.length-1) (0,0)=delE rs t++((0,0) :: rj):=by
 have hl:=bH rs t ht;unfold sh;rw[show t+(rs.length-1-t)=rs.length-1 by omega,List.take_of_length_le (by omega),List.append_assoc,List.set_append_right _ _ (by omega),show rs.length-1 -(delE rs t).length=0 by omega];have:rs.drop (rs.length-1)=[rs.getD (rs.length-1) (0,0)]:=by
  have As:rs.length-1<rs.length:=by omega
  rw[List.drop_eq_getElem_cons As,List.drop_of_length_le (by omega),gD,gE As];rfl
 rw[this];rfl
theorem rG(g B t:Nat)(rs rj:List (Int×Int))(g1 g2:Int)(w:World)(hg:IsC w g (cT (rs++rj)) 77)(hB:IsC w B #[.int .i64 g1,.int .i64 g2] 77)(Km:g≠B)(ht:t<rs.length)(he:rs.getD t (0,0)=(g1,g2))(av:∀i,i<rs.length→i≠t→rs.getD i (0,0)≠(g1,g2))(hl:rs.length≤100)(hm:rs.length+rj.length≤maxLen):
  Calls Tryz.prog 125 #[.slice (some ⟨g,0,none⟩) rs.length (rs.length+rj.length),.func (.func 126) #[] #[.pointer (some ⟨B,0,none⟩)]] w fun e w'=>e=.returned (.slice (some ⟨g,0,none⟩) (rs.length-1) (rs.length+rj.length))∧IsC w' g (cT (delE rs t++((0,0) :: rj))) 77∧Frm (fun k=>k=g) w w':=by
 have gy:rs.length+rj.length≤9223372036854775807:=by simp[maxLen]at hm;omega
 go_enter Tryz.func125,Tryz.ntmps125
 go_wp2_with fail
 refine(uE g B _ t rs rj g1 g2 w hg hB ht he (fun i hi=>av i (by omega) (by omega)) hl).mono ?_;rintro e w1 ⟨rfl,ao⟩;have Qi:IsC w1 g (cT (rs++rj)) 77:=hg.of (ao.block g hg.lt);have d9:IsC w1 B #[.int .i64 g1,.int .i64 g2] 77:=hB.of (ao.block B hB.lt);have DR:¬((t:Int)=-1):=by omega
 have Yb:IntKind.i64.wrap ((t:Int)+1)=((t+1:Nat):Int):=(IntWalk.i64_in _ ⟨by omega,by omega⟩).trans (by omega);have Rx:(-1:Int) <(t:Int):=by omega
 go_wp2
 go_loopw [5,6] (fun u v wr=>∃m:Nat,t+m+1≤rs.length∧u=.int .i64 (t+m:Nat)∧v=.int .i64 (t+m+1:Nat)∧IsC wr g (cT (sh rs t m++rj)) 77∧IsC wr B #[.int .i64 g1,.int .i64 g2] 77∧Frm (fun k=>k=g) w wr) (fun _ v _=>rs.length -(intOf v).toNat)
 case atStart=>exact⟨0,by omega,by simp,by simp,by rw[aMO rs ht];exact Qi,d9,Frm.of_below ao⟩
 case round=>
  obtain⟨m,vj,rfl,rfl,AI,Lg,hF⟩:=hrel;have KO:=aBJ rs (m:=m) ht vj;by_cases ai:t+m+1<rs.length
  ·have dq:((t+m+1:Nat):Int) <(rs.length:Int):=by omega
   have E8:((t+m:Nat):Int) <(rs.length:Int):=by omega
   obtain⟨c1,c2⟩:=jY AI (i:=t+m+1) (by simp;omega);have e1:(sh rs t m++rj).getD (t+m+1) (0,0)=rs.getD (t+m+1) (0,0):=by
    rw[gD,List.getElem?_append_left (by omega),←gD,aBI rs ht vj,if_neg (by omega),if_neg (by omega)]
   rw[e1]at c1 c2;obtain⟨⟨x,y⟩,FH⟩:∃xy,rs.getD (t+m+1) (0,0)=xy:=⟨_,rfl⟩;rw[FH]at c1 c2;simp only at c1 c2;have hn:=av (t+m+1) ai (by omega);rw[FH]at hn;have qk:=aJZ rs ht ai;rw[FH]at qk;have HX:=aA (aI FH (aI hn qk));clear FH hn qk e1;obtain⟨ji,Jl⟩:=eZ (t+m+1);obtain⟨ii,Ji⟩:=eZ (t+m);have HI:=aA (aI Jl Ji);rw[Jl]at c1 c2 dq ⊢;rw[Ji]at E8 ⊢;clear Jl Ji;obtain⟨W2,uz⟩:=eZ (wr.alloc (.cells #[.int .i64 x,.int .i64 y] 77));obtain⟨V,hV⟩:=eZ (wr.heap.size);have ba:=bAl uz;have E1:=iNw uz hV;have v1:W2.cell? ⟨V,0,none⟩=some (.int .i64 x):=E1.c rfl;have v2:W2.cell? ⟨V,1,none⟩=some (.int .i64 y):=E1.c rfl;have cx:IsC W2 B #[.int .i64 g1,.int .i64 g2] 77:=Lg.of (ba.block B Lg.lt);go_wp2_with fail;refine(mG x y g1 g2 B W2 cx).mono ?_;rintro e W3 ⟨rfl,ce⟩;have JV:decide ((x,y)=(g1,g2))=false:=by simpa using HX.out.2.1
   rw[JV];have Aq:IsC W3 g (cT (sh rs t m++rj)) 77:=(AI.of (ba.block g AI.lt)).of (ce.block g (lL AI.lt ba.size));have fj:IsC W3 B #[.int .i64 g1,.int .i64 g2] 77:=cx.of (ce.block B cx.lt);have E0:IsC W3 V #[.int .i64 x,.int .i64 y] 77:=E1.of (ce.block V E1.lt);have y1:W3.cell? ⟨V,0,none⟩=some (.int .i64 x):=E0.c rfl;have y2:W3.cell? ⟨V,1,none⟩=some (.int .i64 y):=E0.c rfl;obtain⟨z1,z2⟩:=jY Aq (i:=ii) (by simp;omega);have f1:=Aq.frozen (ii*2);have f2:=Aq.frozen (ii*2+1);have bu:Frm (fun k=>k=g) w ((W3.setCell ⟨g,ii*2,none⟩ (.int .i64 x)).setCell ⟨g,ii*2+1,none⟩ (.int .i64 y)):=(((hF.trans (Frm.of_below ba)).trans (Frm.of_below ce)).trans (Frm.set (S:=fun k=>k=g) W3 (p:=⟨g,ii*2,none⟩) rfl _)).trans (Frm.set (S:=fun k=>k=g) _ (p:=⟨g,ii*2+1,none⟩) rfl _);have dm:IsC ((W3.setCell ⟨g,ii*2,none⟩ (.int .i64 x)).setCell ⟨g,ii*2+1,none⟩ (.int .i64 y)) B #[.int .i64 g1,.int .i64 g2] 77:=(fj.set_ne _ (Ne.symm Km)).set_ne _ (Ne.symm Km);have Je:IsC ((W3.setCell ⟨g,ii*2,none⟩ (.int .i64 x)).setCell ⟨g,ii*2+1,none⟩ (.int .i64 y)) g (cT (sh rs t (m+1)++rj)) 77:=by
    have h5:=(Aq.set (ii*2) (.int .i64 x)).set (ii*2+1) (.int .i64 y);have OQ:ii <(sh rs t m).length:=by rw[KO];omega
    rw[vM _ ii x y (by rw[lP];omega),List.set_append_left _ _ OQ,←HI.out.2,HX.out.2.2]at h5;rw[←HI.out.2];exact h5
   have HF:=aA (aI Je (aI dm bu));have Tp:ii+1=t+(m+1)∧ji+1=t+(m+1)+1:=by have:=HI.out;omega
   have HJ:=aA Tp;clear JV ba c1 c2 v1 v2 uz hV bu dm Je Tp;go_wp2;go_roundw
   case rel=>
    obtain⟨Je,dm,bu⟩:=HF.out;obtain⟨j1,j2⟩:=HJ.out;exact⟨_,_,_,_,_,_,_,_,_,_,_,_,_,_,_,_,_,_,_,_,_,_,_,⟨m+1,by omega,by rw[←j1];go_num,by rw[←j2];go_num,Je,dm,bu⟩,rfl⟩
   case measure=>simp[intOf];omega
  ·have RP:m=rs.length-1-t:=by omega
   have E8:t+m=rs.length-1:=by omega
   have Q7:t+m+1=rs.length:=by omega
   obtain⟨lo,pq⟩:∃lo,lo=rs.length-1:=⟨_,rfl⟩;have Mf:IsC wr g (cT (sh rs t (rs.length-1-t)++rj)) 77:=by rw[←RP];exact AI
   have au:=tG (n:=1) (b:=g) (o:=lo*2) wr;have MR:∀ty c,(Builtin.clear_ #[55] ty #[.slice (some ⟨g,lo*2,none⟩) 1 c]).run Tryz.prog wr=.ok (.tuple #[]) (wr.setCells g (lo*2) ((List.replicate 1 t0).flatMap aT)):=fun ty c=>
    tG wr ty g (lo*2) 1 c (by omega) (fun k hk=>by rw[AI.cell,Array.getElem?_eq_getElem (by rw[vN,lP,KO];omega)];rfl) (fun k hk=>AI.frozen _)
   clear au;have Hj:wr.setCells g (lo*2) ((List.replicate 1 t0).flatMap aT)=(wr.setCell ⟨g,lo*2,none⟩ (.int .i64 0)).setCell ⟨g,lo*2+1,none⟩ (.int .i64 0):=rfl;have Ar:IsC (wr.setCells g (lo*2) ((List.replicate 1 t0).flatMap aT)) g (cT (delE rs t++((0,0) :: rj))) 77:=by
    rw[Hj];have h5:=(Mf.set (lo*2) (.int .i64 0)).set (lo*2+1) (.int .i64 0);rw[vM _ lo 0 0 (by rw[lP,←RP,KO];omega),pq,aLQ rs ht rj]at h5;rw[pq];exact h5
   have FV:Frm (fun k=>k=g) w (wr.setCells g (lo*2) ((List.replicate 1 t0).flatMap aT)):=hF.trans (Frm.sets (S:=fun k=>k=g) wr rfl _ _);rw[Q7,E8,←pq];have HF:=aA (aI Ar FV);have HL:=aA pq;obtain⟨Wf,TU⟩:=eZ (wr.setCells g (lo*2) ((List.replicate 1 t0).flatMap aT));rw[TU]at MR HF;have q1:¬rs.length+rj.length=lo:=by omega
   have q2:(lo:Int)≤(rs.length:Int):=by omega
   have q3:(rs.length:Int)≤(rs.length:Int)+(rj.length:Int):=by omega
   have q4:rs.length-lo=1:=by omega
   have q5:lo≤rs.length+rj.length:=by omega
   have q6:(lo:Int)≤(rs.length:Int)+(rj.length:Int):=by omega
   clear Ar FV Hj Mf AI TU pq E8 Q7 RP;go_wp2;go_ret;obtain⟨Ar,FV⟩:=HF.out;rw[←HL.out];exact⟨rfl,Ar,FV⟩
structure DpP(w:World)(ρ:Nat→Nat)(P:Nat)(J:List aQ)(r:fZ×Int)(e:Ending)(w':World):Prop where
 e:e=.returned (.int .i64 r.2)
 ex:∃ρ' A',St w' ρ' P A' r.1 J∧Mv (fun _=>False) w ρ w' ρ'
theorem aJC{K:Int}(w:World)(ρ:Nat→Nat)(P:Nat)(A:Adr)(f:fZ)(J:List aQ)(t H:Nat)(x:Int)(h:St w ρ P A f J)(hI:Inv f)(hz:Sz K f)(hK:K≤900000)(ht:t<f.roots.length)(hk:Ok f.nodes H (aB f t) none none)(hx:f.roots.getD t (0,0)=(x,(aB f t:Int))):
  Calls Tryz.prog 104 #[.pointer (some ⟨P,0,none⟩),.agg #[.int .i64 x,.int .i64 (aB f t)]] w (DpP w ρ P J (drop f t H)):=by
 have Mt:∀(fn:Fn) (first cap:Array Value) (w:World),(Instr.makeFunc fn first cap).run Tryz.prog w=.ok (.func fn first cap) w:=fun _ _ _ _=>rfl;obtain⟨B,hB⟩:=eZ (w.heap.size);obtain⟨w0,m0⟩:=eZ (w.alloc (.cells #[.int .i64 x,.int .i64 (aB f t)] 77));have c9:Bl w w0:=by rw[←m0];exact(bQ w.heap.size w).alloc (nR _) _
 have bo:=iNw m0 hB;have kh:=h.below c9;obtain⟨ja,jp,jj,hR,hJ⟩:=id kh;have OZ:ρ B=0:=Nat.eq_zero_of_not_pos fun q=>by
  obtain⟨_,_,_,Ey,_⟩:=id h;have:=Ey.own B (by omega);omega
 have M7:A.ra≠B:=fun e=>by have:=hR.rr;rw[e,OZ]at this;omega
 have r0:w0.cell? ⟨P,0,none⟩=some (.slice (some ⟨A.ra,0,none⟩) f.roots.length (f.roots.length+A.rj.length)):=by rw[hR.hP.cell];rfl
 have ju:=hI.r16;have At:=bH f.roots t ht;have Rg:A.ra≠P:=fun e=>by have e1:=hR.rr;have e2:=hR.rP;rw[e]at e1;omega
 have VX:B≠P:=fun e=>by have e2:=hR.rP;rw[←e,OZ]at e2;omega
 have HE:=aA (aI hB m0);go_enter Tryz.func104,Tryz.ntmps104;go_wp2_with fail;refine(rG A.ra B t f.roots A.rj x (aB f t) w0 hR.hr bo M7 ht hx (fun i hi av=>by rw[←hx];exact zL hI ht hi av) (by omega) hR.rs).mono ?_;rintro e w1 ⟨rfl,g9,iN⟩;obtain⟨ax,lh⟩:=kh.setRoots iN g9 (.inl rfl) (by have:=hR.rs;simp only[List.length_cons];omega);have cy:oC ρ A.ra=ρ:=funext fun y=>by
  unfold oC;split
  ·rename_i e;rw[e];exact hR.rr.symm
  ·rfl
 rw[cy]at ax lh;have ah:(delE f.roots t).length+((0,0) :: A.rj:List (Int×Int)).length=f.roots.length+A.rj.length:=by rw[At];simp only[List.length_cons];omega
 rw[ah,At]at ax lh;have Kh:IsC w1 P _ _:=hR.hP.frm iN (fun e=>Rg e.symm);have r1:w1.cell? ⟨P,0,none⟩=some (.slice (some ⟨A.ra,0,none⟩) f.roots.length (f.roots.length+A.rj.length)):=Kh.c rfl;have z1:=Kh.frozen 0;have eu:IsC (w1.setCell ⟨P,0,none⟩ (.slice (some ⟨A.ra,0,none⟩) (f.roots.length-1) (f.roots.length+A.rj.length))) B #[.int .i64 x,.int .i64 (aB f t)] 77:=(bo.frm iN (Ne.symm M7)).set_ne _ VX;have b2:(w1.setCell ⟨P,0,none⟩ (.slice (some ⟨A.ra,0,none⟩) (f.roots.length-1) (f.roots.length+A.rj.length))).cell? ⟨B,1,none⟩=some (.int .i64 (aB f t)):=eu.c rfl;have qz:Mv (fun _=>False) w ρ (w1.setCell ⟨P,0,none⟩ (.slice (some ⟨A.ra,0,none⟩) (f.roots.length-1) (f.roots.length+A.rj.length))) ρ:=((Mv.of_below (X:=fun y=>y=A.ra∧ρ y=0) c9).trans lh (fun _ _ e=>e)).up fun y _ e=>by
  obtain⟨e1,e2⟩:=e;rw[e1,hR.rr]at e2;omega
 have XU:=aJD hI ht hk;have OY:Sz K (fM f t):=hz.of rfl rfl hz.cb fun _ _ q=>.inl q;obtain⟨w2,bw⟩:=eZ (w1.setCell ⟨P,0,none⟩ (.slice (some ⟨A.ra,0,none⟩) (f.roots.length-1) (f.roots.length+A.rj.length)));rw[bw]at ax lh qz b2 eu;go_wp2_with fail;refine(aEZ hK H w2 ρ P {A with ra:=A.ra,rj:=(0,0) :: A.rj} (fM f t) J (aB f t) ax OY XU).mono ?_;rintro e w3 ⟨rfl,⟨φ',cq⟩,bu⟩;have Ev:Mv (fun _=>False) w ρ w3 ρ:=by
  refine qz.trans (Y:=fun _=>False) ⟨bu.wide fun y _ e=>.inl ?_,fun _ _ _=>rfl⟩ (fun _ _ e=>e);rcases e with e | e
  ·rw[e];have:=hR.rc;show ρ A.c≠0;omega
  ·rw[e];have:=hR.rm;show ρ A.m≠0;omega
 have HF:=aA (aI cq Ev);clear cq Ev bu;go_wp2;go_ret;exact⟨rfl,ρ,_,HF.out.1,HF.out.2⟩
end Go.Proofs.YtaahkgkdpnnhhaaGreat
namespace Go.Proofs.YtaahkgkdpnnhhaaGreat
open Go.RowKit Fo
def RdT(w:World)(v:Value)(rs:List (Int×Int)):Prop:=
 ∃a cap,v=.slice a rs.length cap∧(0<rs.length→∃b off,a=some ⟨b,off,none⟩∧∀i,i<rs.length→w.cell? ⟨b,off+i*2,none⟩=some (.int .i64 (rs.getD i (0,0)).1)∧w.cell? ⟨b,off+i*2+1,none⟩=some (.int .i64 (rs.getD i (0,0)).2))
theorem RdT.of{w:World}{g cap:Nat}{rs rj:List (Int×Int)}(h:IsC w g (cT (rs++rj)) 77):RdT w (.slice (some ⟨g,0,none⟩) rs.length cap) rs:=
 ⟨_,cap,rfl,fun _=>⟨g,0,rfl,fun i hi=>by
  have:=jY h (i:=i) (by simp;omega)
  rw[gD,List.getElem?_append_left hi,←gD]at this;simpa using this⟩⟩
def qA(x y:Int):Int:=if x<y then -1 else if x>y then 1 else 0
theorem vB(x:Int)(w:World):Calls Tryz.prog 107 #[.int .i64 x] w fun e w'=>e=.returned (.bool false)∧w=w':=by
 have h:(x != x)=false:=by simp
 go_enter Tryz.func107,Tryz.ntmps107
 go_wp2
 go_ret
 exact⟨rfl,rfl⟩
theorem yB(x y:Int)(w:World):Calls Tryz.prog 81 #[.int .i64 x,.int .i64 y] w fun e w'=>e=.returned (.int .i64 (qA x y))∧w=w':=by
 have HC:Hid (qA x y=if x<y then -1 else if x>y then 1 else 0):=rfl;go_enter Tryz.func81,Tryz.ntmps81;go_wp2_with fail;refine(vB _ _).mono ?_;rintro e w1 ⟨rfl,rfl⟩;go_wp2_with fail;refine(vB _ _).mono ?_;rintro e w1 ⟨rfl,rfl⟩;by_cases h1:x<y
 ·have HE:Hid (qA x y=-1):=by rw[HC.out,if_pos h1];rfl
  go_wp2
  go_ret
  exact⟨by rw[HE.out];rfl,rfl⟩
 ·by_cases h2:y<x
  ·have HE:Hid (qA x y=1):=by rw[HC.out,if_neg h1,if_pos h2];rfl
   go_wp2
   go_ret
   exact⟨by rw[HE.out];rfl,rfl⟩
  ·have HE:Hid (qA x y=0):=by rw[HC.out,if_neg h1,if_neg h2];rfl
   go_wp2
   go_ret
   exact⟨by rw[HE.out];rfl,rfl⟩
theorem xI(x y:Int)(w:World):Calls Tryz.prog 192 #[.agg #[.int .i64 x,.int .i64 y]] w fun e w'=>e=.returned (.int .i64 x)∧Bl w w':=by
 have hB:=(bQ w.heap.size w).alloc (nR _) (.cells #[.int .i64 x,.int .i64 y] 77);go_enter Tryz.func192,Tryz.ntmps192;go_wp2;go_ret;exact⟨rfl,hB⟩
theorem sM(v:Value)(w:World):(Go.method 344 77 v "loop.example/s01595/impl.sortKey").run Tryz.prog w=.ok (192,v) w:=by kernel_rfl
theorem oA(x y k:Int)(w:World):Calls Tryz.prog 80 #[.agg #[.int .i64 x,.int .i64 y],.int .i64 k] w fun e w'=>e=.returned (.int .i64 (qA x k))∧Bl w w':=by
 have hB:=(bQ w.heap.size w).alloc (nR _) (.cells #[.int .i64 x,.int .i64 y] 77);have mS:=sM;go_enter Tryz.func80,Tryz.ntmps80;go_wp2_with fail;refine(xI x y _).mono ?_;rintro e w1 ⟨rfl,ao⟩;have d9:=hB.trans (ao.mono hB.size);clear ao;go_wp2_with fail;refine(yB _ _ _).mono ?_;rintro e w2 ⟨rfl,rfl⟩;go_wp2;go_ret;exact⟨rfl,d9⟩
def aFG(rs:List (Int×Int)):Prop:=∀i j,i≤j→j<rs.length→(rs.getD i (0,0)).1≤(rs.getD j (0,0)).1
def aFK(rs:List (Int×Int))(key:Int)(e:Ending):Prop:=∃i:Nat,∃b,e=.returned (.tuple #[.int .i64 i,.bool b])∧i≤rs.length∧(∀a,a<i→(rs.getD a (0,0)).1<key)∧(∀a,i≤a→a<rs.length→key≤(rs.getD a (0,0)).1)∧(b=true↔i<rs.length∧(rs.getD i (0,0)).1=key)
theorem zP(v:Value)(rs:List (Int×Int))(key:Int)(w:World)(hv:RdT w v rs)(hn:rs.length≤1048576)(hm:aFG rs):
  Calls Tryz.prog 79 #[v,.int .i64 key,.func (.func 80) #[] #[]] w fun e w'=>Bl w w'∧aFK rs key e:=by
 obtain⟨a,cap,rfl,hc⟩:=hv;go_enter Tryz.func79,Tryz.ntmps79;go_wp2;go_loopw [9,10] (fun u v wr=>∃i j:Nat,i≤j∧j≤rs.length∧u=.int .i64 i∧v=.int .i64 j∧Bl w wr∧(∀a,a<i→(rs.getD a (0,0)).1<key)∧∀a,j≤a→a<rs.length→key≤(rs.getD a (0,0)).1) (fun u v _=>(intOf v).toNat -(intOf u).toNat)
 case atStart=>exact⟨0,rs.length,Nat.zero_le _,nR _,rfl,rfl,bQ _ _,fun a ha=>by omega,fun a h1 h2=>by omega⟩
 case round=>
  obtain⟨i,j,im,hj,rfl,rfl,hb,pq,y7⟩:=hrel;by_cases ai:i<j
  ·obtain⟨b,off,rfl,aa⟩:=hc (by omega)
   have WP:i≤(i+j) / 2∧(i+j) / 2<j:=by omega
   obtain⟨g1,g2⟩:=aa ((i+j) / 2) (by omega);have lu:b<w.heap.size:=World.block_lt_of_cell? _ _ g1;rw[←hb.cell (p:=⟨b,off+(i+j) / 2*2,none⟩) lu]at g1;rw[←hb.cell (p:=⟨b,off+(i+j) / 2*2+1,none⟩) lu]at g2;have C0:(i:Int) <(j:Int):=by omega
   obtain⟨p,HP⟩:∃p,Hid (rs.getD ((i+j) / 2) (0,0)=p):=⟨_,rfl⟩;rw[HP.out]at g1 g2;obtain⟨x,y⟩:=p;simp only at g1 g2;have zo:Hid (∀a,a<i→(rs.getD a (0,0)).1<key):=pq;have Gb:Hid (∀a,j≤a→a<rs.length→key≤(rs.getD a (0,0)).1):=y7;clear hc aa pq y7;go_wp2_with fail;refine(oA x y key _).mono ?_;rintro e w1 ⟨rfl,ao⟩;have ba:=hb.trans (ao.mono hb.size);have HC:Hid (qA x key=if x<key then -1 else if x>key then 1 else 0):=rfl;clear g1 g2 ao hb;by_cases hx:x<key
   ·rw[HC.out,if_pos hx]
    have Oz:Hid (∀a,a <(i+j) / 2+1→(rs.getD a (0,0)).1<key):=fun a ha=>by
     have:=hm a ((i+j) / 2) (by omega) (by omega)
     rw[HP.out]at this;simp only at this;omega
    go_wp2
    go_roundw
    case rel=>exact⟨(i+j) / 2+1,j,by omega,hj,by go_num,rfl,ba,Oz.out,Gb.out⟩
    case measure=>simp[intOf];omega
   ·have JM:¬qA x key<0:=by rw[HC.out,if_neg hx];split<;>omega
    have Ou:Hid (∀a,(i+j) / 2≤a→a<rs.length→key≤(rs.getD a (0,0)).1):=fun a h1 h2=>by
     have:=hm ((i+j) / 2) a h1 h2
     rw[HP.out]at this;simp only at this;omega
    generalize qA x key=cv at *;clear hx;go_wp2;go_roundw
    case rel=>exact⟨i,(i+j) / 2,by omega,by omega,rfl,by go_num,ba,zo.out,Ou.out⟩
    case measure=>simp[intOf];omega
  ·have Jj:i=j:=by omega
   subst Jj;have zo:Hid (∀a,a<i→(rs.getD a (0,0)).1<key):=pq;have Gb:Hid (∀a,i≤a→a<rs.length→key≤(rs.getD a (0,0)).1):=y7;clear pq y7;by_cases ku:i<rs.length
   ·obtain⟨b,off,rfl,aa⟩:=hc (by omega)
    obtain⟨g1,g2⟩:=aa i ku;have lu:b<w.heap.size:=World.block_lt_of_cell? _ _ g1;rw[←hb.cell (p:=⟨b,off+i*2,none⟩) lu]at g1;rw[←hb.cell (p:=⟨b,off+i*2+1,none⟩) lu]at g2;have Jk:(i:Int) <(rs.length:Int):=by omega
    obtain⟨p,HP⟩:∃p,Hid (rs.getD i (0,0)=p):=⟨_,rfl⟩;rw[HP.out]at g1 g2;obtain⟨x,y⟩:=p;simp only at g1 g2;clear hc aa;go_wp2_with fail;refine(oA x y key _).mono ?_;rintro e w1 ⟨rfl,ao⟩;have ba:=hb.trans (ao.mono hb.size);have HB:Hid ((qA x key == 0)=true↔i<rs.length∧(rs.getD i (0,0)).1=key):=by
     show _↔_
     rw[HP.out];unfold qA;split
     ·simp;omega
     ·split
      ·simp;omega
      ·simp;omega
    generalize qA x key=cv at *;clear g1 g2 ao hb;go_wp2;exact bodyPost_ret (v:=.tuple #[.int .i64 i,.bool (cv == 0)]) (by simp[results,Tryz.results79,go_sem]) rfl ⟨ba,i,_,rfl,hj,zo.out,Gb.out,HB.out⟩
   ·clear hc
    have Jk:¬(i:Int) <(rs.length:Int):=by omega
    go_wp2
    exact bodyPost_ret (v:=.tuple #[.int .i64 i,.bool false]) (by simp[results,Tryz.results79,go_sem]) rfl ⟨hb,i,_,rfl,hj,zo.out,Gb.out,by simp;omega⟩
theorem oB(v:Value)(rs:List (Int×Int))(key:Int)(w:World)(hv:RdT w v rs)(hn:rs.length≤1048576)(hm:aFG rs):
  Calls Tryz.prog 58 #[v,.int .i64 key] w fun e w'=>Bl w w'∧aFK rs key e:=by
 obtain⟨a,cap,iq,hc⟩:=id hv;subst iq;have Mt:∀(fn:Fn) (first cap:Array Value) (w:World),(Instr.makeFunc fn first cap).run Tryz.prog w=.ok (.func fn first cap) w:=fun _ _ _ _=>rfl;clear hc;go_enter Tryz.func58,Tryz.ntmps58;go_wp2_with fail;refine(zP _ rs key _ hv hn hm).mono ?_;rintro e w1 ⟨ao,i,b,rfl,h1,h2,h3,h4⟩;have HS:Hid (aFK rs key (.returned (.tuple #[.int .i64 i,.bool b]))):=⟨i,b,rfl,h1,h2,h3,h4⟩;clear h1 h2 h3 h4;go_wp2;exact bodyPost_ret (v:=.tuple #[.int .i64 i,.bool b]) (by simp[results,Tryz.results58,go_sem]) rfl ⟨ao,HS.out⟩
end Go.Proofs.YtaahkgkdpnnhhaaGreat
namespace Go.Proofs.YtaahkgkdpnnhhaaGreat
open Go.RowKit Go.Shelf Fo
def atT(f:fZ)(tree:Int):Option Nat:=(List.range f.roots.length).find? fun i=>rid f i == tree
theorem mC{f:fZ}{tree:Int}{t:Nat}(h:atT f tree=some t):t<f.roots.length∧rid f t=tree:=by
 unfold atT at h;rw[List.find?_range_eq_some]at h;exact⟨by simpa using h.2.1,by simpa using h.1⟩
theorem aKO{f:fZ}(h:Inv f):aFG f.roots:=fun i j im hj=>by
 rcases Nat.lt_or_eq_of_le im with q | q
 ·have:=h.ids i j q hj;unfold rid at this;omega
 ·subst q;exact Int.le_refl _
theorem aFQ{f:fZ}{tree:Int}{i:Nat}{b:Bool}(h1:i≤f.roots.length)(h2:∀a,a<i→(f.roots.getD a (0,0)).1<tree)(hI:Inv f)(h3:∀a,i≤a→a<f.roots.length→tree≤(f.roots.getD a (0,0)).1)(h4:b=true↔i<f.roots.length∧(f.roots.getD i (0,0)).1=tree):atT f tree=if b then some i else none:=by
 unfold atT;cases b with
 | true=>
  obtain⟨k1,k2⟩:=h4.1 rfl;simp only[if_true];rw[List.find?_range_eq_some];refine⟨by rw[show rid f i=tree from k2];simp,by simpa using k1,fun j hj=>?_⟩;have:=h2 j hj;have av:¬rid f j=tree:=by unfold rid;omega
  simp[av]
 | false=>
  simp only[Bool.false_eq_true,if_false];rw[List.find?_range_eq_none];intro j hj;have av:¬rid f j=tree:=fun e=>by
   by_cases q:j<i
   ·have:=h2 j q;unfold rid at e;omega
   ·by_cases q':j=i
    ·subst q';have:=h4.2 ⟨hj,e⟩;cases this
    ·have a1:=hI.ids i j (by omega) hj
     have a2:=h3 i (nR _) (by omega);unfold rid at a1 e;omega
  simp[av]
def aHS(f:fZ)(tree:Int):Int:=match atT f tree with
 | some t=>(aB f t:Int)
 | none=>0
theorem vP{f:fZ}{tree:Int}{t:Nat}(h:atT f tree=some t):aHS f tree=(aB f t:Int):=by unfold aHS;rw[h]
theorem vO{f:fZ}{tree:Int}(h:atT f tree=none):aHS f tree=0:=by unfold aHS;rw[h]
theorem aEM{K:Int}(w:World)(ρ:Nat→Nat)(P:Nat)(A:Adr)(f:fZ)(J:List aQ)(tree:Int)(h:St w ρ P A f J)(hI:Inv f)(hz:Sz K f):
  Calls Tryz.prog 41 #[.pointer (some ⟨P,0,none⟩),.int .i64 tree] w fun e w'=>e=.returned (.int .i64 (aHS f tree))∧Bl w w':=by
 obtain⟨ja,jp,jj,hR,hJ⟩:=id h;have r0:w.cell? ⟨P,0,none⟩=some (.slice (some ⟨A.ra,0,none⟩) f.roots.length (f.roots.length+A.rj.length)):=by rw[hR.hP.cell];rfl
 have EY:RdT w (.slice (some ⟨A.ra,0,none⟩) f.roots.length (f.roots.length+A.rj.length)) f.roots:=RdT.of hR.hr;go_enter Tryz.func41,Tryz.ntmps41;go_wp2_with fail;refine(oB _ f.roots tree w EY (by have:=hI.r16;omega) (aKO hI)).mono ?_;rintro e w1 ⟨hb,i,b,rfl,h1,h2,h3,h4⟩;have jw:=aFQ h1 h2 hI h3 h4;cases b with
 | true=>
  obtain⟨k1,k2⟩:=h4.1 rfl;have br:=h.below hb;have h0:0≤(f.roots.getD i (0,0)).2:=(hI.ic.rb _ (aO k1)).1;obtain⟨en,-⟩:=br.rootCell k1 h0;obtain⟨_,_,_,it,_⟩:=id br;have r1:w1.cell? ⟨P,0,none⟩=some (.slice (some ⟨A.ra,0,none⟩) f.roots.length (f.roots.length+A.rj.length)):=by rw[it.hP.cell];rfl
  have E8:(i:Int) <(f.roots.length:Int):=by omega
  have HA:=aA (vP jw);clear jw h2 h3 h4 k2 EY;go_wp2;go_ret;refine⟨?_,hb⟩;rw[HA.out];rfl
 | false=>
  have HA:=aA (vO jw);clear jw h2 h3 h4 EY;go_wp2;go_ret;refine⟨?_,hb⟩;rw[HA.out];rfl
def aY(f:fZ)(kind tree:Int)(key val:ByteArray):Nat×Int:=
 if inB kind 1 6=false then(0,5)else if kind=5 then(0,0)else match atT f tree with
  | none=>(0,8)
  | some t=>if((kind=1∨kind=2∨kind=6)∧12<key.size)∨(kind=1∧10<val.size)then(0,4)else(t,0)
theorem aFM{K:Int}(w:World)(ρ:Nat→Nat)(P:Nat)(A:Adr)(f:fZ)(J:List aQ)(kind tree:Int)(key val:ByteArray)(h:St w ρ P A f J)(hI:Inv f)(hz:Sz K f):
  Calls Tryz.prog 72 #[.pointer (some ⟨P,0,none⟩),.agg #[.int .i64 kind,.int .i64 tree,.string key,.string val]] w fun e w'=>e=.returned (.tuple #[.int .i64 (aY f kind tree key val).1,.int .i64 (aY f kind tree key val).2])∧Bl w w':=by
 obtain⟨B,hB⟩:=eZ (w.heap.size);obtain⟨w0,m0⟩:=eZ (w.alloc (.cells #[.int .i64 kind,.int .i64 tree,.string key,.string val] 63));have c9:Bl w w0:=by rw[←m0];exact(bQ w.heap.size w).alloc (nR _) _
 have bo:=iNw m0 hB;have kh:=h.below c9;obtain⟨ja,jp,jj,hR,hJ⟩:=id kh;have k0:w0.cell? ⟨B,0,none⟩=some (.int .i64 kind):=bo.c rfl;have k1:w0.cell? ⟨B,1,none⟩=some (.int .i64 tree):=bo.c rfl;obtain⟨r,Hr⟩:∃r,Hid (aY f kind tree key val=r):=⟨_,rfl⟩;rw[Hr.out];by_cases ku:inB kind 1 6=true
 ·have Cg:aY f kind tree key val=(if kind=5 then((0,0):Nat×Int)else match atT f tree with
   | none=>(0,8)
   | some t=>if((kind=1∨kind=2∨kind=6)∧12<key.size)∨(kind=1∧10<val.size)then(0,4)else(t,0)):=by
   unfold aY;rw[if_neg (by rw[ku];simp)]
  have HA:=aA Cg;clear Cg;go_enter Tryz.func72,Tryz.ntmps72;go_wp2_with fail;refine(eR kind 1 6 w0).mono ?_;rintro e w1 ⟨rfl,rfl⟩;rw[ku];by_cases h5:kind=5
  ·have HX:Hid (r=(0,0)):=by show _=_;rw[←Hr.out,HA.out,if_pos h5]
   subst h5;go_wp2;refine bodyPost_ret (v:=.tuple #[.int .i64 0,.int .i64 0]) (by simp[results,Tryz.results72,go_sem]) rfl ?_;rw[HX.out];exact⟨rfl,by first | exact c9 | (rw[←hB];exact c9)⟩
  · -- place of the tree
   have r0:w0.cell? ⟨P,0,none⟩=some (.slice (some ⟨A.ra,0,none⟩) f.roots.length (f.roots.length+A.rj.length)):=by rw[hR.hP.cell];rfl
   have EY:RdT w0.drew (.slice (some ⟨A.ra,0,none⟩) f.roots.length (f.roots.length+A.rj.length)) f.roots:=RdT.of hR.hr;have Xz:(kind == 5)=false:=by simpa using h5
   have DK:=hR.hP.lt;have wv:=bo.lt;go_wp2;go_region_held3 (fun w'=>w'.cell? ⟨P,0,none⟩=some (.slice (some ⟨A.ra,0,none⟩) f.roots.length (f.roots.length+A.rj.length))∧w'.cell? ⟨B,1,none⟩=some (.int .i64 tree)) (first | go_keep | exact⟨r0,k1⟩ | exact⟨(hb.cell (p:=⟨P,0,none⟩) DK).trans r0,(hb.cell (p:=⟨B,1,none⟩) wv).trans k1⟩) ((go_at_call 58;refine(oB _ f.roots tree _ EY (by have:=hI.r16;omega) (aKO hI)).mono ?_;rintro e w2 ⟨ik,i,b,rfl,h1,h2,h3,h4⟩;have hb:Bl w0 w2:=(bQ w0.heap.size w0).drew.trans ik));have jw:=aFQ h1 h2 hI h3 h4;have yt:=c9.trans (hb.mono c9.size);have eu:IsC w2 B #[.int .i64 kind,.int .i64 tree,.string key,.string val] 63:=bo.of (hb.block B wv);have q0:w2.cell? ⟨B,0,none⟩=some (.int .i64 kind):=eu.c rfl;have q2:w2.cell? ⟨B,2,none⟩=some (.string key):=eu.c rfl;have q3:w2.cell? ⟨B,3,none⟩=some (.string val):=eu.c rfl;cases b with
   | false=>
    have HX:Hid (r=(0,8)):=by show _=_;rw[←Hr.out,HA.out,if_neg h5,jw];rfl
    clear jw h2 h3 h4 EY;go_wp2;refine bodyPost_ret (v:=.tuple #[.int .i64 0,.int .i64 8]) (by simp[results,Tryz.results72,go_sem]) rfl ?_;rw[HX.out];exact⟨rfl,by first | exact yt | (rw[←hB];exact yt)⟩
   | true=>
    have DH:r=if((kind=1∨kind=2∨kind=6)∧12<key.size)∨(kind=1∧10<val.size)then(0,4)else(i,0):=by rw[←Hr.out,HA.out,if_neg h5,jw];rfl
    have GX:=aA DH;clear DH jw h2 h3 h4 EY HA Hr;by_cases c1:kind=1
    ·subst c1
     by_cases hk:12<key.size
     ·have qp:(12:Int) <(key.size:Int):=by omega
      have HX:Hid (r=(0,4)):=by show _=_;rw[GX.out];simp[hk]
      go_wp2
      refine bodyPost_ret (v:=.tuple #[.int .i64 0,.int .i64 4]) (by simp[results,Tryz.results72,go_sem]) rfl ?_;rw[HX.out];exact⟨rfl,by first | exact yt | (rw[←hB];exact yt)⟩
     ·have qp:¬(12:Int) <(key.size:Int):=by omega
      by_cases hv:10<val.size
      ·have nw:(10:Int) <(val.size:Int):=by omega
       have HX:Hid (r=(0,4)):=by show _=_;rw[GX.out];simp[hv]
       go_wp2
       refine bodyPost_ret (v:=.tuple #[.int .i64 0,.int .i64 4]) (by simp[results,Tryz.results72,go_sem]) rfl ?_;rw[HX.out];exact⟨rfl,by first | exact yt | (rw[←hB];exact yt)⟩
      ·have nw:¬(10:Int) <(val.size:Int):=by omega
       have HX:Hid (r=(i,0)):=by show _=_;rw[GX.out];simp[hk,hv]
       go_wp2
       refine bodyPost_ret (v:=.tuple #[.int .i64 i,.int .i64 0]) (by simp[results,Tryz.results72,go_sem]) rfl ?_;rw[HX.out];exact⟨rfl,by first | exact yt | (rw[←hB];exact yt)⟩
    ·have c1':(kind == 1)=false:=by simpa using c1
     by_cases c2:kind=2
     ·subst c2
      by_cases hk:12<key.size
      ·have qp:(12:Int) <(key.size:Int):=by omega
       have HX:Hid (r=(0,4)):=by show _=_;rw[GX.out];simp[hk]
       go_wp2
       refine bodyPost_ret (v:=.tuple #[.int .i64 0,.int .i64 4]) (by simp[results,Tryz.results72,go_sem]) rfl ?_;rw[HX.out];exact⟨rfl,by first | exact yt | (rw[←hB];exact yt)⟩
      ·have qp:¬(12:Int) <(key.size:Int):=by omega
       have HX:Hid (r=(i,0)):=by show _=_;rw[GX.out];simp[hk]
       go_wp2
       refine bodyPost_ret (v:=.tuple #[.int .i64 i,.int .i64 0]) (by simp[results,Tryz.results72,go_sem]) rfl ?_;rw[HX.out];exact⟨rfl,by first | exact yt | (rw[←hB];exact yt)⟩
     ·have c2':(kind == 2)=false:=by simpa using c2
      by_cases c6:kind=6
      ·subst c6
       by_cases hk:12<key.size
       ·have qp:(12:Int) <(key.size:Int):=by omega
        have HX:Hid (r=(0,4)):=by show _=_;rw[GX.out];simp[hk]
        go_wp2
        refine bodyPost_ret (v:=.tuple #[.int .i64 0,.int .i64 4]) (by simp[results,Tryz.results72,go_sem]) rfl ?_;rw[HX.out];exact⟨rfl,by first | exact yt | (rw[←hB];exact yt)⟩
       ·have qp:¬(12:Int) <(key.size:Int):=by omega
        have HX:Hid (r=(i,0)):=by show _=_;rw[GX.out];simp[hk]
        go_wp2
        refine bodyPost_ret (v:=.tuple #[.int .i64 i,.int .i64 0]) (by simp[results,Tryz.results72,go_sem]) rfl ?_;rw[HX.out];exact⟨rfl,by first | exact yt | (rw[←hB];exact yt)⟩
      ·have c6':(kind == 6)=false:=by simpa using c6
       have HX:Hid (r=(i,0)):=by show _=_;rw[GX.out];simp[c1,c2,c6]
       go_wp2
       refine bodyPost_ret (v:=.tuple #[.int .i64 i,.int .i64 0]) (by simp[results,Tryz.results72,go_sem]) rfl ?_;rw[HX.out];exact⟨rfl,by first | exact yt | (rw[←hB];exact yt)⟩
 ·have Mj:inB kind 1 6=false:=by simpa using ku
  have HX:Hid (r=(0,5)):=by show _=_;rw[←Hr.out];unfold aY;rw[if_pos Mj]
  go_enter Tryz.func72,Tryz.ntmps72
  go_wp2_with fail
  refine(eR kind 1 6 w0).mono ?_;rintro e w1 ⟨rfl,rfl⟩;rw[Mj];go_wp2;refine bodyPost_ret (v:=.tuple #[.int .i64 0,.int .i64 5]) (by simp[results,Tryz.results72,go_sem]) rfl ?_;rw[HX.out];exact⟨rfl,by first | exact c9 | (rw[←hB];exact c9)⟩
attribute [local go_sem] Oper.semAt_some
def aIM(F:Fence)(n:Nat)(P:Program)(g:Nat)(lb:Array Value)(vs:List (Array Value))(Kp:World→World→Prop)(w:World):Prop:=
 ∀(l:Nat) (J:List (Array Value)→World→Prop) (W:World),Bl w W→AbidesFrom W.heap.size J→
  (∀(pre:List (Array Value)) (x:Array Value) (W1:World),J pre W1→pre++[x] <+: vs→YieldAt F (n-1) P l x W1 fun e W'=>e=.returned (.bool true)∧J (pre++[x]) W'∧Kp W1 W')→
  J [] W→CallsIn F n P g (#[.func (.yield l) #[] #[]]++lb) W fun e W'=>(∃v,e=.returned v)∧J vs W'
structure KpB(B:Nat)(a:Option Nat)(W W':World):Prop where
 size:W.heap.size≤W'.heap.size
 b:W'.heap[B]?=W.heap[B]?
 g:∀g,a=some g→W'.heap[g]?=W.heap[g]?
theorem KpB.refl(B:Nat)(a:Option Nat)(W:World):KpB B a W W:=⟨nR _,rfl,fun _ _=>rfl⟩
theorem KpB.trans{B:Nat}{a:Option Nat}{X Y Z:World}(h:KpB B a X Y)(k:KpB B a Y Z):KpB B a X Z:=⟨lT h.size k.size,k.b.trans h.b,fun g e=>(k.g g e).trans (h.g g e)⟩
theorem KpB.put{B N:Nat}{a:Option Nat}(h1:B<N)(h2:∀g,a=some g→g<N)(W:World)(l:Nat)(o o':Obj)(hl:N≤l)(_ho:W.heap[l]?=some o)(_:o.isCells=false)(_:o.isWalk=false):KpB B a W (W.putObj l o'):=
 ⟨by simp[World.putObj],World.putObj_heap_other (by omega),fun g e=>World.putObj_heap_other (by have:=h2 g e;omega)⟩
def aHQ(r:JE):Value:=.agg #[.int .i64 r.1,.int .i64 r.2.1,eQ r.2.2]
def iS(jp:List JE):List (Array Value):=((List.range jp.length).map fun i=>#[.int .i64 ((jp.length-1-i:Nat):Int),aHQ (jp.getD (jp.length-1-i) j0)])
theorem oP(jp:List JE):(iS jp).length=jp.length:=by simp[iS]
theorem xU(jp:List JE){m:Nat}(hm:m<jp.length):(iS jp)[m]?=some #[.int .i64 ((jp.length-1-m:Nat):Int),aHQ (jp.getD (jp.length-1-m) j0)]:=by
 unfold iS;rw[List.getElem?_map,List.getElem?_range hm];rfl
theorem aBC{w:World}{g:Nat}{xs:List JE}(h:IsC w g (iQ xs) 187){i:Nat}(hi:i<xs.length):w.cell? ⟨g,i*3,none⟩=some (.int .i64 (xs.getD i j0).1)∧w.cell? ⟨g,i*3+1,none⟩=some (.int .i64 (xs.getD i j0).2.1)∧w.cell? ⟨g,i*3+2,none⟩=some (eQ (xs.getD i j0).2.2):=by
 rw[h.cell,h.cell,h.cell];exact aHO xs hi
theorem vZ(F:Fence)(n:Nat)(hg:F.fn 149)(cy:F.round=none)(hn:1≤n)(l B cap:Nat)(ja:Option Nat)(jp jj:List JE)(OS:jp.length≤1000000)(J:List (Array Value)→World→Prop)(B0:Nat)(hJ:AbidesFrom B0 J)
  (hY:∀pre (x:Array Value) W,J pre W→pre++[x] <+: iS jp→YieldAt F (n-1) Tryz.prog l x W fun e W'=>e=.returned (.bool true)∧J (pre++[x]) W'∧KpB B ja W W')
  (W:World) (hB:IsC W B #[.slice (adr ja) jp.length cap] 69) (hG:∀g,ja=some g→IsC W g (iQ (jp++jj)) 187) (AU:ja=none→jp=[]) (h0:J [] W):
  CallsIn F n Tryz.prog 149 #[.func (.yield l) #[] #[],.pointer (some ⟨B,0,none⟩)] W fun e W'=>(∃v,e=.returned v)∧J (iS jp) W':=by
 have c0:W.cell? ⟨B,0,none⟩=some (.slice (adr ja) jp.length cap):=hB.c rfl;have m0:IntKind.i64.wrap ((jp.length:Int)-1)=(jp.length:Int)-1:=IntWalk.i64_in _ ⟨by omega,by omega⟩;refine callsIn_of_wp Tryz.func149 rfl hg ?_ cy;simp only[Tryz.ntmps149,List.size_toArray,List.length_cons,List.length_nil,Nat.reduceAdd,Nat.reduceSub,Array.replicate_succ,Array.replicate_zero,List.push_toArray,List.append_toArray,List.nil_append,List.cons_append];gi_wp2;gi_loopw [3] (fun i wr=>∃m:Nat,m≤jp.length∧i=.int .i64 ((jp.length:Int)-1-m)∧J ((iS jp).take m) wr∧KpB B ja W wr) (fun i _=>((intOf i)+1).toNat)
 case atStart=>exact⟨0,Nat.zero_le _,by simp,by simpa using h0,KpB.refl _ _ _⟩
 case round=>
  obtain⟨m,hm,rfl,Ck,hk⟩:=hrel;have Da:IsC wr B #[.slice (adr ja) jp.length cap] 69:=hB.of hk.b;have d0:wr.cell? ⟨B,0,none⟩=some (.slice (adr ja) jp.length cap):=Da.c rfl;by_cases ai:m<jp.length
  ·obtain⟨g,hja⟩:∃g,ja=some g:=by
    cases ja with
    | none=>rw[AU rfl]at ai;simp at ai
    | some g=>exact⟨g,rfl⟩
   subst hja;have VK:IsC wr g (iQ (jp++jj)) 187:=(hG g rfl).of (hk.g g rfl);simp only[adr,Option.map_some]at d0;obtain⟨i,Hi⟩:=exH (jp.length-1-m);have E7:(jp.length:Int)-1-m=(i:Int):=by have:=Hi.out;omega
   have ew:i<jp.length:=by have:=Hi.out;omega
   rw[E7];have E8:(i:Int) <(jp.length:Int):=by omega
   obtain⟨e1,e2,e3⟩:=aBC VK (i:=i) (by simp;omega);have ie:(jp++jj).getD i j0=jp.getD i j0:=by rw[gD,List.getElem?_append_left ew,←gD]
   rw[ie]at e1 e2 e3;have hx:=xU jp ai;rw[←Hi.out]at hx;unfold aHQ at hx;obtain⟨⟨x1,x2,x3⟩,Nc⟩:∃x,jp.getD i j0=x:=⟨_,rfl⟩;rw[Nc]at e1 e2 e3 hx;simp only at e1 e2 e3 hx;obtain⟨pv,DP⟩:∃pv,eQ x3=.pointer pv:=⟨_,rfl⟩;rw[DP]at e3 hx;have HT:Hid ((iS jp).take m++[#[.int .i64 (i:Int),.agg #[.int .i64 x1,.int .i64 x2,.pointer pv]]]=(iS jp).take (m+1)):=by
    show _=_
    rw[List.take_add_one,hx];rfl
   obtain⟨fn,tmps,assign,body,hy,hR⟩:=hY _ _ _ Ck (by rw[HT.out];exact List.take_prefix _ _);have YY:IntKind.i64.wrap ((i:Int)-1)=(i:Int)-1:=IntWalk.i64_in _ ⟨by omega,by omega⟩;have HM:=aA (aI hx (aI ie (aI Nc E7)));have HB:=aA hk;clear hY hx ie Nc E7 hk;gi_wp2;refine hR.mono ?_;rintro e W3 ⟨rfl,sy,Jn⟩;rw[HT.out]at sy;clear d0 e1 e2 e3 hy hR;gi_wp2;go_roundw
   case rel=>exact⟨m+1,by omega,by have:=HM.out.2.2.2;congr 1;omega,sy,HB.out.trans Jn⟩
   case measure=>simp[intOf]<;>omega
  ·obtain rfl:m=jp.length:=by omega
   have HT:Hid ((iS jp).take jp.length=iS jp):=List.take_of_length_le (by rw[oP];exact nR _);have GA:(jp.length:Int)-1-jp.length=-1:=by omega
   rw[GA];gi_wp2;go_end0;exact⟨⟨_,rfl⟩,by rw[←HT.out];exact Ck⟩
theorem xV(F:Fence)(n:Nat)(hg:F.fn 130)(cy:F.round=none)(a:Option Addr)(k c:Nat)(w:World):
  CallsIn F n Tryz.prog 130 #[.slice a k c] w fun e w'=>e=.returned (.func (.func 149) #[] #[.pointer (some ⟨w.heap.size,0,none⟩)])∧w'=w.alloc (.cells #[.slice a k c] 69):=by
 refine callsIn_of_wp Tryz.func130 rfl hg ?_ cy;simp only[Tryz.ntmps130,List.size_toArray,List.length_cons,List.length_nil,Nat.reduceAdd,Nat.reduceSub,Array.replicate_succ,Array.replicate_zero,List.push_toArray,List.append_toArray,List.nil_append,List.cons_append];gi_wp2;go_ret;exact⟨rfl,rfl⟩
theorem zM{n:Nat}{P:Program}{row:String}{args:Array Value}{w:World}{R:Value→World→Prop}(h:Rows P row args w R):RowsIn Fence.wide n P row args w R:=
 fun c cs _=>let ⟨v,w',r,s⟩:=h c cs;⟨v,w',r,stepsIn_wide.2 s⟩
structure mU(F:Fence)(P:Program):Prop where
 fn:∀k,F.fn k
 calls:∀(f:FuncId) (args:Array Value) (w:World) (R:Ending→World→Prop) (m:Nat),Calls P f args w R→CallsIn F m P f args w R
 rows:∀(row:String) (args:Array Value) (w:World) (R:Value→World→Prop) (m:Nat),Rows P row args w R→RowsIn F m P row args w R
theorem mU.wide(P:Program):mU Fence.wide P:=⟨fun _=>trivial,fun _ _ _ _ _ h=>callsIn_wide.2 h,fun _ _ _ _ _ h=>zM h⟩
theorem mU.inRound{F:Fence}{P:Program}(h:mU F P)(l:Nat):mU (F.inRound l) P:=⟨h.fn,fun f args w R m k=>CallsIn.inRound l (h.calls f args w R m k),fun r args w R m k=>h.rows r args w R m k⟩
section
variable {F : Fence} {n : Nat} {P : Program} {ops : Array Oper} {Q : Exit → Act → World → Prop} {md : Region.Mode}
theorem aBZ{o:Oper}{a:Act}{w:World}{K:Act→World→Prop}(hF:mU F P)(hn:F.depth.isSome=true→1≤n)(hd:∀c,o.op≠.defer c)(h:o.wp P a w K Q):o.wpIn F n P a w K Q:=by
 refine⟨fun f _=>hF.fn f,?_⟩;rw[Oper.semAt_eq _ _ _ hd];unfold Oper.wp at h;generalize (execOp a.eval o).run P w=r at *;cases r with
 | ok x w'=>
  cases x<;>first | exact h | exact⟨hn,hF.calls _ _ _ _ _ h⟩ | exact⟨hn,hF.rows _ _ _ _ _ h⟩ | exact h.elim
 | halt x w'=>cases x<;>exact h
theorem tY{i:Nat}{a:Act}{w:World}{K:Act→World→Prop}(hF:mU F P)(hn:F.depth.isSome=true→1≤n)(hd:∀(j:Nat) (o:Oper),ops[j]?=some o→∀c,o.op≠.defer c)(hL:¬LetsOut Q)(h:wpOp P ops Q i K a w):wpOpIn F n P ops Q i K a w:=by
 unfold wpOp at h;unfold wpOpIn;cases ho:ops[i]? with
 | none=>rw[ho]at h;exact h
 | some o=>
  rw[ho]at h;simp only at h ⊢;split
  ·rename_i hw
   rw[if_pos hw]at h;rcases h with h | h
   ·exact aBZ hF hn (hd i o ho) h
   ·exact absurd h.2 hL
  ·rename_i hw
   rw[if_neg hw]at h;exact⟨fun f _=>hF.fn f,h⟩
theorem lG(hF:mU F P)(hn:F.depth.isSome=true→1≤n)(hd:∀(j:Nat) (o:Oper),ops[j]?=some o→∀c,o.op≠.defer c)(hL:¬LetsOut Q):∀(fuel:Nat) (listed:Array Bool) (a:Act) (w:World),wpAny P md ops Q fuel listed a w→wpAnyIn F n P md ops Q fuel listed a w
 | 0,_,_,_,h=>h
 | fuel+1,_,_,_,h=>⟨h.1,fun i hi=>wpOpIn_mono (fun a' w' h'=>lG hF hn hd hL fuel _ a' w' h') (tY hF hn hd hL (h.2 i hi))⟩
def wX(ops:Array Oper):Bool:=ops.toList.all fun o=>match o.op with
 | .defer _=>false
 | _=>true
theorem wY(h:wX ops=true)(j:Nat)(o:Oper)(ho:ops[j]?=some o)(c:Call):o.op≠.defer c:=fun e=>by
 unfold wX at h;have hm:o∈ops.toList:=by
  have:=Array.mem_of_getElem? ho
  simpa using this
 have:=List.all_eq_true.1 h o hm
 rw[e]at this;cases this
theorem gI(S:World→Prop)(L:Nat){id:Nat}{a:Act}{w:World}(hF:mU F P)(hn:F.depth.isSome=true→1≤n)(hd:wX ops=true)(hL:¬LetsOut Q)(hm:P.follows .mixedOrders=true)
  (h:dZ P .any ops Q S L ops.size (Array.replicate ops.size false) a w.drew):(Code.region id ops true).wpIn F n P Q a w:=
 wpIn_region_any hm (lG hF hn (wY hd) hL _ _ _ _ (mR _ _ _ _ h))
end
end Go.Proofs.YtaahkgkdpnnhhaaGreat
namespace Go.Proofs.YtaahkgkdpnnhhaaGreat
open Go.RowKit Go.Shelf Fo
variable {w w' : World} {ρ ρ' : Nat → Nat} {P : Nat} {A : Adr} {f : fZ} {S : Nat → Prop} {ja : Option Nat} {jp jj : List JE} {J : List aQ}
structure JrK(w:World)(ρ:Nat→Nat)(ja:Option Nat)(jp jj:List JE)(J:List aQ)(k:Nat):Prop where
 arr:∀g,ja=some g→IsC w g (iQ (jp++jj)) 187∧ρ g=6
 nil:ja=none→jp=[]∧jj=[]
 len:jp.length=J.length
 row:∀i,i<k→(jp.getD i j0).1=((J.getD i jr0).1:Int)∧(jp.getD i j0).2.1=(J.getD i jr0).2.1∧
  (match (J.getD i jr0).2.2 with
  | none=>(jp.getD i j0).2.2=none
  | some d=>∃q a junk,(jp.getD i j0).2.2=some q∧ρ q=jW i∧(∀g,a=some g→ρ g=jX i)∧aM w q d a junk)
theorem JrL.toK(h:JrL w ρ ja jp jj J):JrK w ρ ja jp jj J J.length:=⟨h.arr,h.nil,h.len,h.row⟩
def isK(k r:Nat):Prop:=r=6∨∃i,i<k∧(r=jW i∨r=jX i)
theorem JrK.frm{k k':Nat}(h:JrK w ρ ja jp jj J k)(hk:k'≤k)(hF:Frm S w w')(ho:∀x,ρ x≠0→x<w.heap.size)(hS:∀x,S x→¬isK k' (ρ x))(hρ:∀x,isK k' (ρ x)→ρ' x=ρ x):JrK w' ρ' ja jp jj J k':=by
 have rol:∀{x r},ρ x=r→isK k' r→ρ' x=r:=fun {x r} e hr=>by rw[hρ x (e▸hr),e]
 have no:∀{x r},ρ x=r→isK k' r→¬S x:=fun {x r} e hr hs=>hS x hs (e▸hr);have k6:isK k' 6:=.inl rfl;refine⟨fun g e=>?_,h.nil,h.len,fun i hi=>?_⟩
 ·obtain⟨h1,h2⟩:=h.arr g e
  exact⟨h1.frm hF (no h2 k6),rol h2 k6⟩
 ·have kb:isK k' (jW i):=.inr ⟨i,hi,.inl rfl⟩
  have kn:isK k' (jX i):=.inr ⟨i,hi,.inr rfl⟩;obtain⟨h1,h2,h3⟩:=h.row i (by omega);refine⟨h1,h2,?_⟩;cases e:(J.getD i jr0).2.2 with
  | none=>rw[e]at h3;exact h3
  | some d=>
   rw[e]at h3;obtain⟨q,a,junk,m1,m2,m3,m4⟩:=h3;exact⟨q,a,junk,m1,rol m2 kb,fun g e=>rol (m3 g e) kn,m4.frm hF (no m2 kb) fun g e=>no (m3 g e) kn⟩
theorem St.dead(h:St w ρ P A f J):St w ρ P A f fL:=by
 obtain⟨ja,jp,jj,h1,_⟩:=h;exact⟨ja,jp,jj,h1,fun hl=>absurd hl uT⟩
def aBF(ρ:Nat→Nat)(q:Nat)(a:Option Nat):Nat→Nat:=fun x=>if x=q∨a=some x then 0 else ρ x
theorem St.unrole(h:St w ρ P A f fL){q:Nat}{a:Option Nat}(hq:isJ (ρ q))(ha:∀g,a=some g→isJ (ρ g)):St w (aBF ρ q a) P A f fL:=by
 obtain⟨ja,jp,jj,h1,_⟩:=h;refine⟨ja,jp,jj,h1.frm (S:=fun _=>False) ⟨Frm.refl _ _,fun x hx hn=>?_,fun x hx=>?_⟩ (fun _ _ e=>e.elim),fun hl=>absurd hl uT⟩
 ·unfold aBF
  split
  ·rename_i e
   rcases e with e | e
   ·rw[e]at hn;exact absurd hq hn.2
   ·exact absurd (ha x e) hn.2
  ·rfl
 ·unfold aBF at hx
  split at hx
  ·exact absurd rfl hx
  ·exact h1.own x hx
theorem aLL{k i:Nat}(h:¬i<k):¬isK k (jW i):=fun e=>by
 rcases e with e | ⟨j,hj,e | e⟩
 ·unfold jW at e;omega
 ·unfold jW at e;omega
 ·unfold jW jX at e;omega
theorem aLM{k i:Nat}(h:¬i<k):¬isK k (jX i):=fun e=>by
 rcases e with e | ⟨j,hj,e | e⟩
 ·unfold jX at e;omega
 ·unfold jW jX at e;omega
 ·unfold jX at e;omega
theorem aMF{k r:Nat}(h:isK k r):isJ r:=by
 rcases h with e | ⟨j,hj,e | e⟩
 ·rw[e];exact aGO
 ·rw[e];exact qR j
 ·rw[e];exact qS j
theorem aDG(f:fZ){i:Nat}(hi:i<J.length):eC f (J.drop i)=aKI (eC f (J.drop (i+1))) (J.getD i jr0):=by
 have:J.drop i=J.getD i jr0 :: J.drop (i+1):=by
  rw[gD,gE hi];exact List.drop_eq_getElem_cons hi
 rw[this];rfl
