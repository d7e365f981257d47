import Derived.Test.YtaahkgkdpnnhhaaGreatHq19
set_option maxHeartbeats 9999999
set_option maxRecDepth 99999
set_option linter.all false
namespace Go.Proofs.YtaahkgkdpnnhhaaGreat
open Go.RowKit Go.Shelf Fo
def atT(f:fZ)(tree:Int):Option Nat:=(List.range f.roots.length).find? fun i=>rid f i == tree
theorem xH{f:fZ}{tree:Int}{t:Nat}(h:atT f tree=some t):t<f.roots.length∧rid f t=tree:=by
 unfold atT at h;rw[List.find?_range_eq_some]at h;exact⟨by simpa using h.2.1,by simpa using h.1⟩
theorem aMB{f:fZ}(h:Inv f):aHB f.roots:=fun i j hij hj=>by
 rcases Nat.lt_or_eq_of_le hij with q | q
 ·have:=h.ids i j q hj;unfold rid at this;omega
 ·subst q;exact Int.le_refl _
theorem aLM{f:fZ}{tree:Int}{i:Nat}{b:Bool}(h1:i≤f.roots.length)(h2:∀a,a<i→(f.roots.getD a (0,0)).1<tree)(hI:Inv f)(h3:∀a,i≤a→a<f.roots.length→tree≤(f.roots.getD a (0,0)).1)(h4:b=true↔i<f.roots.length∧(f.roots.getD i (0,0)).1=tree):atT f tree=if b then some i else none:=by
 unfold atT;cases b with
 | true=>
  obtain⟨k1,k2⟩:=h4.1 rfl;simp only[if_true];rw[List.find?_range_eq_some];refine⟨by rw[show rid f i=tree from k2];simp,by simpa using k1,fun j hj=>?_⟩;have:=h2 j hj;have hne:¬rid f j=tree:=by unfold rid;omega
  simp[hne]
 | false=>
  simp only[Bool.false_eq_true,if_false];rw[List.find?_range_eq_none];intro j hj;have hne:¬rid f j=tree:=fun e=>by
   by_cases q:j<i
   ·have:=h2 j q;unfold rid at e;omega
   ·by_cases q':j=i
    ·subst q';have:=h4.2 ⟨hj,e⟩;cases this
    ·have a1:=hI.ids i j (by omega) hj
     have a2:=h3 i (nR _) (by omega);unfold rid at a1 e;omega
  simp[hne]
def aX(f:fZ)(kind tree:Int)(key val:ByteArray):Nat×Int:=
 if inB kind 1 6=false then(0,5)else if kind=5 then(0,0)else match atT f tree with
  | none=>(0,8)
  | some t=>if((kind=1∨kind=2∨kind=6)∧12<key.size)∨(kind=1∧10<val.size)then(0,4)else(t,0)
theorem aHZ{K:Int}(w:World)(ρ:Nat→Nat)(P:Nat)(A:Adr)(f:fZ)(J:List aR)(kind tree:Int)(key val:ByteArray)(h:St w ρ P A f J)(hI:Inv f)(hz:Sz K f):
  Calls Tryz.prog 72 #[.pointer (some ⟨P,0,none⟩),.agg #[.int .i64 kind,.int .i64 tree,.string key,.string val]] w fun e w'=>e=.returned (.tuple #[.int .i64 (aX f kind tree key val).1,.int .i64 (aX f kind tree key val).2])∧Bl w w':=by
 obtain⟨B,hB⟩:=eZ (w.heap.size);obtain⟨w0,hw0⟩:=eZ (w.alloc (.cells #[.int .i64 kind,.int .i64 tree,.string key,.string val] 63));have hB0:Bl w w0:=by rw[←hw0];exact(bQ w.heap.size w).alloc (nR _) _
 have hbx:=iNw hw0 hB;have hS0:=h.below hB0;obtain⟨ja,jp,jj,hR,hJ⟩:=id hS0;have k0:w0.cell? ⟨B,0,none⟩=some (.int .i64 kind):=hbx.c rfl;have k1:w0.cell? ⟨B,1,none⟩=some (.int .i64 tree):=hbx.c rfl;obtain⟨r,Hr⟩:∃r,Hid (aX f kind tree key val=r):=⟨_,rfl⟩;rw[Hr.out];by_cases hin:inB kind 1 6=true
 ·have hA1:aX f kind tree key val=(if kind=5 then((0,0):Nat×Int)else match atT f tree with
   | none=>(0,8)
   | some t=>if((kind=1∨kind=2∨kind=6)∧12<key.size)∨(kind=1∧10<val.size)then(0,4)else(t,0)):=by
   unfold aX;rw[if_neg (by rw[hin];simp)]
  have HA:=aA hA1;clear hA1;go_enter Tryz.func72,Tryz.ntmps72;go_wp2_with fail;refine(eP kind 1 6 w0).mono ?_;rintro e w1 ⟨rfl,rfl⟩;rw[hin];by_cases h5:kind=5
  ·have HX:Hid (r=(0,0)):=by show _=_;rw[←Hr.out,HA.out,if_pos h5]
   subst h5;go_wp2;refine bodyPost_ret (v:=.tuple #[.int .i64 0,.int .i64 0]) (by simp[results,Tryz.results72,go_sem]) rfl ?_;rw[HX.out];exact⟨rfl,by first | exact hB0 | (rw[←hB];exact hB0)⟩
  · -- place of the tree
   have r0:w0.cell? ⟨P,0,none⟩=some (.slice (some ⟨A.ra,0,none⟩) f.roots.length (f.roots.length+A.rj.length)):=by rw[hR.hP.cell];rfl
   have hrd:RdT w0.drew (.slice (some ⟨A.ra,0,none⟩) f.roots.length (f.roots.length+A.rj.length)) f.roots:=RdT.of hR.hr;have h5':(kind == 5)=false:=by simpa using h5
   have hPl:=hR.hP.lt;have hBl:=hbx.lt;go_wp2;go_region_held3 (fun w'=>w'.cell? ⟨P,0,none⟩=some (.slice (some ⟨A.ra,0,none⟩) f.roots.length (f.roots.length+A.rj.length))∧w'.cell? ⟨B,1,none⟩=some (.int .i64 tree)) (first | go_keep | exact⟨r0,k1⟩ | exact⟨(hb.cell (p:=⟨P,0,none⟩) hPl).trans r0,(hb.cell (p:=⟨B,1,none⟩) hBl).trans k1⟩) ((go_at_call 58;refine(xJ _ f.roots tree _ hrd (by have:=hI.r16;omega) (aMB hI)).mono ?_;rintro e w2 ⟨hb0,i,b,rfl,h1,h2,h3,h4⟩;have hb:Bl w0 w2:=(bQ w0.heap.size w0).drew.trans hb0));have hat:=aLM h1 h2 hI h3 h4;have hBf:=hB0.trans (hb.mono hB0.size);have hbx2:IsC w2 B #[.int .i64 kind,.int .i64 tree,.string key,.string val] 63:=hbx.of (hb.block B hBl);have q0:w2.cell? ⟨B,0,none⟩=some (.int .i64 kind):=hbx2.c rfl;have q2:w2.cell? ⟨B,2,none⟩=some (.string key):=hbx2.c rfl;have q3:w2.cell? ⟨B,3,none⟩=some (.string val):=hbx2.c rfl;cases b with
   | false=>
    have HX:Hid (r=(0,8)):=by show _=_;rw[←Hr.out,HA.out,if_neg h5,hat];rfl
    clear hat h2 h3 h4 hrd;go_wp2;refine bodyPost_ret (v:=.tuple #[.int .i64 0,.int .i64 8]) (by simp[results,Tryz.results72,go_sem]) rfl ?_;rw[HX.out];exact⟨rfl,by first | exact hBf | (rw[←hB];exact hBf)⟩
   | true=>
    have hA2:r=if((kind=1∨kind=2∨kind=6)∧12<key.size)∨(kind=1∧10<val.size)then(0,4)else(i,0):=by rw[←Hr.out,HA.out,if_neg h5,hat];rfl
    have HA2:=aA hA2;clear hA2 hat h2 h3 h4 hrd HA Hr;by_cases c1:kind=1
    ·subst c1
     by_cases hk:12<key.size
     ·have hk':(12:Int) <(key.size:Int):=by omega
      have HX:Hid (r=(0,4)):=by show _=_;rw[HA2.out];simp[hk]
      go_wp2
      refine bodyPost_ret (v:=.tuple #[.int .i64 0,.int .i64 4]) (by simp[results,Tryz.results72,go_sem]) rfl ?_;rw[HX.out];exact⟨rfl,by first | exact hBf | (rw[←hB];exact hBf)⟩
     ·have hk':¬(12:Int) <(key.size:Int):=by omega
      by_cases hv:10<val.size
      ·have hv':(10:Int) <(val.size:Int):=by omega
       have HX:Hid (r=(0,4)):=by show _=_;rw[HA2.out];simp[hv]
       go_wp2
       refine bodyPost_ret (v:=.tuple #[.int .i64 0,.int .i64 4]) (by simp[results,Tryz.results72,go_sem]) rfl ?_;rw[HX.out];exact⟨rfl,by first | exact hBf | (rw[←hB];exact hBf)⟩
      ·have hv':¬(10:Int) <(val.size:Int):=by omega
       have HX:Hid (r=(i,0)):=by show _=_;rw[HA2.out];simp[hk,hv]
       go_wp2
       refine bodyPost_ret (v:=.tuple #[.int .i64 i,.int .i64 0]) (by simp[results,Tryz.results72,go_sem]) rfl ?_;rw[HX.out];exact⟨rfl,by first | exact hBf | (rw[←hB];exact hBf)⟩
    ·have c1':(kind == 1)=false:=by simpa using c1
     by_cases c2:kind=2
     ·subst c2
      by_cases hk:12<key.size
      ·have hk':(12:Int) <(key.size:Int):=by omega
       have HX:Hid (r=(0,4)):=by show _=_;rw[HA2.out];simp[hk]
       go_wp2
       refine bodyPost_ret (v:=.tuple #[.int .i64 0,.int .i64 4]) (by simp[results,Tryz.results72,go_sem]) rfl ?_;rw[HX.out];exact⟨rfl,by first | exact hBf | (rw[←hB];exact hBf)⟩
      ·have hk':¬(12:Int) <(key.size:Int):=by omega
       have HX:Hid (r=(i,0)):=by show _=_;rw[HA2.out];simp[hk]
       go_wp2
       refine bodyPost_ret (v:=.tuple #[.int .i64 i,.int .i64 0]) (by simp[results,Tryz.results72,go_sem]) rfl ?_;rw[HX.out];exact⟨rfl,by first | exact hBf | (rw[←hB];exact hBf)⟩
     ·have c2':(kind == 2)=false:=by simpa using c2
      by_cases c6:kind=6
      ·subst c6
       by_cases hk:12<key.size
       ·have hk':(12:Int) <(key.size:Int):=by omega
        have HX:Hid (r=(0,4)):=by show _=_;rw[HA2.out];simp[hk]
        go_wp2
        refine bodyPost_ret (v:=.tuple #[.int .i64 0,.int .i64 4]) (by simp[results,Tryz.results72,go_sem]) rfl ?_;rw[HX.out];exact⟨rfl,by first | exact hBf | (rw[←hB];exact hBf)⟩
       ·have hk':¬(12:Int) <(key.size:Int):=by omega
        have HX:Hid (r=(i,0)):=by show _=_;rw[HA2.out];simp[hk]
        go_wp2
        refine bodyPost_ret (v:=.tuple #[.int .i64 i,.int .i64 0]) (by simp[results,Tryz.results72,go_sem]) rfl ?_;rw[HX.out];exact⟨rfl,by first | exact hBf | (rw[←hB];exact hBf)⟩
      ·have c6':(kind == 6)=false:=by simpa using c6
       have HX:Hid (r=(i,0)):=by show _=_;rw[HA2.out];simp[c1,c2,c6]
       go_wp2
       refine bodyPost_ret (v:=.tuple #[.int .i64 i,.int .i64 0]) (by simp[results,Tryz.results72,go_sem]) rfl ?_;rw[HX.out];exact⟨rfl,by first | exact hBf | (rw[←hB];exact hBf)⟩
 ·have hinf:inB kind 1 6=false:=by simpa using hin
  have HX:Hid (r=(0,5)):=by show _=_;rw[←Hr.out];unfold aX;rw[if_pos hinf]
  go_enter Tryz.func72,Tryz.ntmps72
  go_wp2_with fail
  refine(eP kind 1 6 w0).mono ?_;rintro e w1 ⟨rfl,rfl⟩;rw[hinf];go_wp2;refine bodyPost_ret (v:=.tuple #[.int .i64 0,.int .i64 5]) (by simp[results,Tryz.results72,go_sem]) rfl ?_;rw[HX.out];exact⟨rfl,by first | exact hB0 | (rw[←hB];exact hB0)⟩
attribute [local go_sem] Oper.semAt_some
def aKD(F:Fence)(n:Nat)(P:Program)(g:Nat)(lb:Array Value)(vs:List (Array Value))(Kp:World→World→Prop)(w:World):Prop:=
 ∀(l:Nat) (J:List (Array Value)→World→Prop) (W:World),Bl w W→AbidesFrom W.heap.size J→
  (∀(pre:List (Array Value)) (x:Array Value) (W1:World),J pre W1→pre++[x] <+: vs→YieldAt F (n-1) P l x W1 fun e W'=>e=.returned (.bool true)∧J (pre++[x]) W'∧Kp W1 W')→
  J [] W→CallsIn F n P g (#[.func (.yield l) #[] #[]]++lb) W fun e W'=>(∃v,e=.returned v)∧J vs W'
structure KpB(B:Nat)(a:Option Nat)(W W':World):Prop where
 size:W.heap.size≤W'.heap.size
 b:W'.heap[B]?=W.heap[B]?
 g:∀g,a=some g→W'.heap[g]?=W.heap[g]?
theorem KpB.refl(B:Nat)(a:Option Nat)(W:World):KpB B a W W:=⟨nR _,rfl,fun _ _=>rfl⟩
theorem KpB.trans{B:Nat}{a:Option Nat}{X Y Z:World}(h:KpB B a X Y)(k:KpB B a Y Z):KpB B a X Z:=⟨lT h.size k.size,k.b.trans h.b,fun g e=>(k.g g e).trans (h.g g e)⟩
theorem KpB.put{B N:Nat}{a:Option Nat}(h1:B<N)(h2:∀g,a=some g→g<N)(W:World)(l:Nat)(o o':Obj)(hl:N≤l)(_ho:W.heap[l]?=some o)(_:o.isCells=false)(_:o.isWalk=false):KpB B a W (W.putObj l o'):=
 ⟨by simp[World.putObj],World.putObj_heap_other (by omega),fun g e=>World.putObj_heap_other (by have:=h2 g e;omega)⟩
def aGZ(r:JE):Value:=.agg #[.int .i64 r.1,.int .i64 r.2.1,eY r.2.2]
def iV(jp:List JE):List (Array Value):=((List.range jp.length).map fun i=>#[.int .i64 ((jp.length-1-i:Nat):Int),aGZ (jp.getD (jp.length-1-i) j0)])
theorem oW(jp:List JE):(iV jp).length=jp.length:=by simp[iV]
theorem zX(jp:List JE){m:Nat}(hm:m<jp.length):(iV jp)[m]?=some #[.int .i64 ((jp.length-1-m:Nat):Int),aGZ (jp.getD (jp.length-1-m) j0)]:=by
 unfold iV;rw[List.getElem?_map,List.getElem?_range hm];rfl
theorem aBZ{w:World}{g:Nat}{xs:List JE}(h:IsC w g (iR xs) 187){i:Nat}(hi:i<xs.length):w.cell? ⟨g,i*3,none⟩=some (.int .i64 (xs.getD i j0).1)∧w.cell? ⟨g,i*3+1,none⟩=some (.int .i64 (xs.getD i j0).2.1)∧w.cell? ⟨g,i*3+2,none⟩=some (eY (xs.getD i j0).2.2):=by
 rw[h.cell,h.cell,h.cell];exact aGL xs hi
theorem xE(F:Fence)(n:Nat)(hg:F.fn 149)(hro:F.round=none)(hn:1≤n)(l B cap:Nat)(ja:Option Nat)(jp jj:List JE)(hl9:jp.length≤1000000)(J:List (Array Value)→World→Prop)(B0:Nat)(hJ:AbidesFrom B0 J)
  (hY:∀pre (x:Array Value) W,J pre W→pre++[x] <+: iV jp→YieldAt F (n-1) Tryz.prog l x W fun e W'=>e=.returned (.bool true)∧J (pre++[x]) W'∧KpB B ja W W')
  (W:World) (hB:IsC W B #[.slice (adr ja) jp.length cap] 69) (hG:∀g,ja=some g→IsC W g (iR (jp++jj)) 187) (hnil:ja=none→jp=[]) (h0:J [] W):
  CallsIn F n Tryz.prog 149 #[.func (.yield l) #[] #[],.pointer (some ⟨B,0,none⟩)] W fun e W'=>(∃v,e=.returned v)∧J (iV jp) W':=by
 have c0:W.cell? ⟨B,0,none⟩=some (.slice (adr ja) jp.length cap):=hB.c rfl;have hw0:IntKind.i64.wrap ((jp.length:Int)-1)=(jp.length:Int)-1:=IntWalk.i64_in _ ⟨by omega,by omega⟩;refine callsIn_of_wp Tryz.func149 rfl hg ?_ hro;simp only[Tryz.ntmps149,List.size_toArray,List.length_cons,List.length_nil,Nat.reduceAdd,Nat.reduceSub,Array.replicate_succ,Array.replicate_zero,List.push_toArray,List.append_toArray,List.nil_append,List.cons_append];gi_wp2;gi_loopw [3] (fun i wr=>∃m:Nat,m≤jp.length∧i=.int .i64 ((jp.length:Int)-1-m)∧J ((iV jp).take m) wr∧KpB B ja W wr) (fun i _=>((intOf i)+1).toNat)
 case atStart=>exact⟨0,Nat.zero_le _,by simp,by simpa using h0,KpB.refl _ _ _⟩
 case round=>
  obtain⟨m,hm,rfl,hJs,hk⟩:=hrel;have hB':IsC wr B #[.slice (adr ja) jp.length cap] 69:=hB.of hk.b;have d0:wr.cell? ⟨B,0,none⟩=some (.slice (adr ja) jp.length cap):=hB'.c rfl;by_cases hlt:m<jp.length
  ·obtain⟨g,hja⟩:∃g,ja=some g:=by
    cases ja with
    | none=>rw[hnil rfl]at hlt;simp at hlt
    | some g=>exact⟨g,rfl⟩
   subst hja;have hG':IsC wr g (iR (jp++jj)) 187:=(hG g rfl).of (hk.g g rfl);simp only[adr,Option.map_some]at d0;obtain⟨i,Hi⟩:=exH (jp.length-1-m);have hie:(jp.length:Int)-1-m=(i:Int):=by have:=Hi.out;omega
   have hil:i<jp.length:=by have:=Hi.out;omega
   rw[hie];have hii:(i:Int) <(jp.length:Int):=by omega
   obtain⟨e1,e2,e3⟩:=aBZ hG' (i:=i) (by simp;omega);have hgd:(jp++jj).getD i j0=jp.getD i j0:=by rw[gD,List.getElem?_append_left hil,←gD]
   rw[hgd]at e1 e2 e3;have hx:=zX jp hlt;rw[←Hi.out]at hx;unfold aGZ at hx;obtain⟨⟨x1,x2,x3⟩,hxx⟩:∃x,jp.getD i j0=x:=⟨_,rfl⟩;rw[hxx]at e1 e2 e3 hx;simp only at e1 e2 e3 hx;obtain⟨pv,hpv⟩:∃pv,eY x3=.pointer pv:=⟨_,rfl⟩;rw[hpv]at e3 hx;have HT:Hid ((iV jp).take m++[#[.int .i64 (i:Int),.agg #[.int .i64 x1,.int .i64 x2,.pointer pv]]]=(iV jp).take (m+1)):=by
    show _=_
    rw[List.take_add_one,hx];rfl
   obtain⟨fn,tmps,assign,body,hy,hR⟩:=hY _ _ _ hJs (by rw[HT.out];exact List.take_prefix _ _);have hwi:IntKind.i64.wrap ((i:Int)-1)=(i:Int)-1:=IntWalk.i64_in _ ⟨by omega,by omega⟩;have HM:=aA (aI hx (aI hgd (aI hxx hie)));have HB:=aA hk;clear hY hx hgd hxx hie hk;gi_wp2;refine hR.mono ?_;rintro e W3 ⟨rfl,hJ3,hk3⟩;rw[HT.out]at hJ3;clear d0 e1 e2 e3 hy hR;gi_wp2;go_roundw
   case rel=>exact⟨m+1,by omega,by have:=HM.out.2.2.2;congr 1;omega,hJ3,HB.out.trans hk3⟩
   case measure=>simp[intOf]<;>omega
  ·obtain rfl:m=jp.length:=by omega
   have HT:Hid ((iV jp).take jp.length=iV jp):=List.take_of_length_le (by rw[oW];exact nR _);have hneg:(jp.length:Int)-1-jp.length=-1:=by omega
   rw[hneg];gi_wp2;go_end0;exact⟨⟨_,rfl⟩,by rw[←HT.out];exact hJs⟩
theorem xU(F:Fence)(n:Nat)(hg:F.fn 130)(hro:F.round=none)(a:Option Addr)(k c:Nat)(w:World):
  CallsIn F n Tryz.prog 130 #[.slice a k c] w fun e w'=>e=.returned (.func (.func 149) #[] #[.pointer (some ⟨w.heap.size,0,none⟩)])∧w'=w.alloc (.cells #[.slice a k c] 69):=by
 refine callsIn_of_wp Tryz.func130 rfl hg ?_ hro;simp only[Tryz.ntmps130,List.size_toArray,List.length_cons,List.length_nil,Nat.reduceAdd,Nat.reduceSub,Array.replicate_succ,Array.replicate_zero,List.push_toArray,List.append_toArray,List.nil_append,List.cons_append];gi_wp2;go_ret;exact⟨rfl,rfl⟩
theorem yL{n:Nat}{P:Program}{row:String}{args:Array Value}{w:World}{R:Value→World→Prop}(h:Rows P row args w R):RowsIn Fence.wide n P row args w R:=
 fun c cs _=>let ⟨v,w',r,s⟩:=h c cs;⟨v,w',r,stepsIn_wide.2 s⟩
structure rI(F:Fence)(P:Program):Prop where
 fn:∀k,F.fn k
 calls:∀(f:FuncId) (args:Array Value) (w:World) (R:Ending→World→Prop) (m:Nat),Calls P f args w R→CallsIn F m P f args w R
 rows:∀(row:String) (args:Array Value) (w:World) (R:Value→World→Prop) (m:Nat),Rows P row args w R→RowsIn F m P row args w R
theorem rI.wide(P:Program):rI Fence.wide P:=⟨fun _=>trivial,fun _ _ _ _ _ h=>callsIn_wide.2 h,fun _ _ _ _ _ h=>yL h⟩
theorem rI.inRound{F:Fence}{P:Program}(h:rI F P)(l:Nat):rI (F.inRound l) P:=⟨h.fn,fun f args w R m k=>CallsIn.inRound l (h.calls f args w R m k),fun r args w R m k=>h.rows r args w R m k⟩
section
variable {F : Fence} {n : Nat} {P : Program} {ops : Array Oper} {Q : Exit → Act → World → Prop} {md : Region.Mode}
theorem aBQ{o:Oper}{a:Act}{w:World}{K:Act→World→Prop}(hF:rI F P)(hn:F.depth.isSome=true→1≤n)(hd:∀c,o.op≠.defer c)(h:o.wp P a w K Q):o.wpIn F n P a w K Q:=by
 refine⟨fun f _=>hF.fn f,?_⟩;rw[Oper.semAt_eq _ _ _ hd];unfold Oper.wp at h;generalize (execOp a.eval o).run P w=r at *;cases r with
 | ok x w'=>
  cases x<;>first | exact h | exact⟨hn,hF.calls _ _ _ _ _ h⟩ | exact⟨hn,hF.rows _ _ _ _ _ h⟩ | exact h.elim
 | halt x w'=>cases x<;>exact h
theorem tP{i:Nat}{a:Act}{w:World}{K:Act→World→Prop}(hF:rI F P)(hn:F.depth.isSome=true→1≤n)(hd:∀(j:Nat) (o:Oper),ops[j]?=some o→∀c,o.op≠.defer c)(hL:¬LetsOut Q)(h:wpOp P ops Q i K a w):wpOpIn F n P ops Q i K a w:=by
 unfold wpOp at h;unfold wpOpIn;cases ho:ops[i]? with
 | none=>rw[ho]at h;exact h
 | some o=>
  rw[ho]at h;simp only at h ⊢;split
  ·rename_i hw
   rw[if_pos hw]at h;rcases h with h | h
   ·exact aBQ hF hn (hd i o ho) h
   ·exact absurd h.2 hL
  ·rename_i hw
   rw[if_neg hw]at h;exact⟨fun f _=>hF.fn f,h⟩
theorem lD(hF:rI F P)(hn:F.depth.isSome=true→1≤n)(hd:∀(j:Nat) (o:Oper),ops[j]?=some o→∀c,o.op≠.defer c)(hL:¬LetsOut Q):∀(fuel:Nat) (listed:Array Bool) (a:Act) (w:World),wpAny P md ops Q fuel listed a w→wpAnyIn F n P md ops Q fuel listed a w
 | 0,_,_,_,h=>h
 | fuel+1,_,_,_,h=>⟨h.1,fun i hi=>wpOpIn_mono (fun a' w' h'=>lD hF hn hd hL fuel _ a' w' h') (tP hF hn hd hL (h.2 i hi))⟩
def wE(ops:Array Oper):Bool:=ops.toList.all fun o=>match o.op with
 | .defer _=>false
 | _=>true
theorem wH(h:wE ops=true)(j:Nat)(o:Oper)(ho:ops[j]?=some o)(c:Call):o.op≠.defer c:=fun e=>by
 unfold wE at h;have hm:o∈ops.toList:=by
  have:=Array.mem_of_getElem? ho
  simpa using this
 have:=List.all_eq_true.1 h o hm
 rw[e]at this;cases this
theorem jA(S:World→Prop)(L:Nat){id:Nat}{a:Act}{w:World}(hF:rI F P)(hn:F.depth.isSome=true→1≤n)(hd:wE ops=true)(hL:¬LetsOut Q)(hm:P.follows .mixedOrders=true)
  (h:dX P .any ops Q S L ops.size (Array.replicate ops.size false) a w.drew):(Code.region id ops true).wpIn F n P Q a w:=
 wpIn_region_any hm (lD hF hn (wH hd) hL _ _ _ _ (mT _ _ _ _ h))
end
end Go.Proofs.YtaahkgkdpnnhhaaGreat
namespace Go.Proofs.YtaahkgkdpnnhhaaGreat
open Go.RowKit Go.Shelf Fo
variable {w w' : World} {ρ ρ' : Nat → Nat} {P : Nat} {A : Adr} {f : fZ} {S : Nat → Prop} {ja : Option Nat} {jp jj : List JE} {J : List aR}
structure JrK(w:World)(ρ:Nat→Nat)(ja:Option Nat)(jp jj:List JE)(J:List aR)(k:Nat):Prop where
 arr:∀g,ja=some g→IsC w g (iR (jp++jj)) 187∧ρ g=6
 nil:ja=none→jp=[]∧jj=[]
 len:jp.length=J.length
 row:∀i,i<k→(jp.getD i j0).1=((J.getD i jr0).1:Int)∧(jp.getD i j0).2.1=(J.getD i jr0).2.1∧
  (match (J.getD i jr0).2.2 with
  | none=>(jp.getD i j0).2.2=none
  | some d=>∃q a junk,(jp.getD i j0).2.2=some q∧ρ q=jS i∧(∀g,a=some g→ρ g=jV i)∧aM w q d a junk)
theorem JrL.toK(h:JrL w ρ ja jp jj J):JrK w ρ ja jp jj J J.length:=⟨h.arr,h.nil,h.len,h.row⟩
def isK(k r:Nat):Prop:=r=6∨∃i,i<k∧(r=jS i∨r=jV i)
theorem JrK.frm{k k':Nat}(h:JrK w ρ ja jp jj J k)(hk:k'≤k)(hF:Frm S w w')(ho:∀x,ρ x≠0→x<w.heap.size)(hS:∀x,S x→¬isK k' (ρ x))(hρ:∀x,isK k' (ρ x)→ρ' x=ρ x):JrK w' ρ' ja jp jj J k':=by
 have rol:∀{x r},ρ x=r→isK k' r→ρ' x=r:=fun {x r} e hr=>by rw[hρ x (e▸hr),e]
 have no:∀{x r},ρ x=r→isK k' r→¬S x:=fun {x r} e hr hs=>hS x hs (e▸hr);have k6:isK k' 6:=.inl rfl;refine⟨fun g e=>?_,h.nil,h.len,fun i hi=>?_⟩
 ·obtain⟨h1,h2⟩:=h.arr g e
  exact⟨h1.frm hF (no h2 k6),rol h2 k6⟩
 ·have kb:isK k' (jS i):=.inr ⟨i,hi,.inl rfl⟩
  have kn:isK k' (jV i):=.inr ⟨i,hi,.inr rfl⟩;obtain⟨h1,h2,h3⟩:=h.row i (by omega);refine⟨h1,h2,?_⟩;cases e:(J.getD i jr0).2.2 with
  | none=>rw[e]at h3;exact h3
  | some d=>
   rw[e]at h3;obtain⟨q,a,junk,m1,m2,m3,m4⟩:=h3;exact⟨q,a,junk,m1,rol m2 kb,fun g e=>rol (m3 g e) kn,m4.frm hF (no m2 kb) fun g e=>no (m3 g e) kn⟩
theorem St.dead(h:St w ρ P A f J):St w ρ P A f fK:=by
 obtain⟨ja,jp,jj,h1,_⟩:=h;exact⟨ja,jp,jj,h1,fun hl=>absurd hl vA⟩
def aBD(ρ:Nat→Nat)(q:Nat)(a:Option Nat):Nat→Nat:=fun x=>if x=q∨a=some x then 0 else ρ x
theorem St.unrole(h:St w ρ P A f fK){q:Nat}{a:Option Nat}(hq:isJ (ρ q))(ha:∀g,a=some g→isJ (ρ g)):St w (aBD ρ q a) P A f fK:=by
 obtain⟨ja,jp,jj,h1,_⟩:=h;refine⟨ja,jp,jj,h1.frm (S:=fun _=>False) ⟨Frm.refl _ _,fun x hx hn=>?_,fun x hx=>?_⟩ (fun _ _ e=>e.elim),fun hl=>absurd hl vA⟩
 ·unfold aBD
  split
  ·rename_i e
   rcases e with e | e
   ·rw[e]at hn;exact absurd hq hn.2
   ·exact absurd (ha x e) hn.2
  ·rfl
 ·unfold aBD at hx
  split at hx
  ·exact absurd rfl hx
  ·exact h1.own x hx
theorem aLN{k i:Nat}(h:¬i<k):¬isK k (jS i):=fun e=>by
 rcases e with e | ⟨j,hj,e | e⟩
 ·unfold jS at e;omega
 ·unfold jS at e;omega
 ·unfold jS jV at e;omega
theorem aKX{k i:Nat}(h:¬i<k):¬isK k (jV i):=fun e=>by
 rcases e with e | ⟨j,hj,e | e⟩
 ·unfold jV at e;omega
 ·unfold jS jV at e;omega
 ·unfold jV at e;omega
theorem aLY{k r:Nat}(h:isK k r):isJ r:=by
 rcases h with e | ⟨j,hj,e | e⟩
 ·rw[e];exact aGG
 ·rw[e];exact qR j
 ·rw[e];exact qU j
theorem aEU(f:fZ){i:Nat}(hi:i<J.length):eB f (J.drop i)=aKK (eB f (J.drop (i+1))) (J.getD i jr0):=by
 have:J.drop i=J.getD i jr0 :: J.drop (i+1):=by
  rw[gD,gE hi];exact List.drop_eq_getElem_cons hi
 rw[this];rfl
end Go.Proofs.YtaahkgkdpnnhhaaGreat
namespace Go.Proofs.YtaahkgkdpnnhhaaGreat
open Go.RowKit Go.Shelf Fo
attribute [local go_sem] Oper.semAt_some
theorem tA{F:Fence}{n:Nat}{P:Program}{g:Operand}{ps:Array Tmp}{assign body:Code}{Q:Exit→Act→World→Prop}{a:Act}{w:World}
  (hro:F.round=none) (h1:1≤n) {gf:Nat} {lb:Array Value} (hg:a.eval g=.func (.func gf) #[] lb) (hFg:F.fn gf) (eg:∀args w,(callFunc gf args).run P w=.ok (.enter gf args) w)
  {Kp:World→World→Prop} {vs:List (Array Value)} {w0:World} (hseq:aKD F (n-1) P gf lb vs Kp w0)
  (hKt:∀{A B C:World},Kp A B→Kp B C→Kp A C) (hKb:∀(W:World) (l:Nat) (o o':Obj),w.heap.size≤l→W.heap[l]?=some o→o.isCells=false→o.isWalk=false→Kp W (W.putObj l o')) (hb0:Bl w0 w) (hps:∀x∈vs,x.size=ps.size)
  (I:List (Array Value)→World→Prop) (hI:OwnFrom w.heap.size I) (h0:I [] w)
  (hround:∀(l:Nat) (pre:List (Array Value)) (x:Array Value) (W:World),I pre W→pre++[x] <+: vs→
   assign.wpIn (F.inRound l) (n-1-1) P (Exit.then (fun a' W'=>KeepsFrom w.heap.size W W'∧Kp W W'∧∃I2:List Unit→World→Prop,OwnFrom w.heap.size I2∧I2 [] W'∧∀W2,I2 [] W2→body.wpIn (F.inRound l) (n-1-1) P (ownPostG w.heap.size Kp I (fun _ _ _=>False) (pre++[x]) W2) a' W2) (fun _ _ _=>False)) {tmps:=(ps.zip x).foldl (fun t (p,v)=>t.setIfInBounds p v) a.tmps,defers:=[]} W)
  (hdone:∀(D:Nat) (W:World),w.heap.size≤D→I vs W→W.heap[D]?=some (.deferred (some []))→Q .normal {a with defers:={target:=.collected D,args:=#[]} :: a.defers} W):
  (Code.rangeFunc g ps assign body).wpIn F n P Q a w:=by
 refine wpIn_rangeFunc fun fn hfn=>?_;rw[hro];obtain⟨D,hD⟩:=eZ (w.heap.size);obtain⟨R,hR⟩:∃R:LoopState→Option Code→Loop,R=fun st pe=>{state:=st,pending:=pe,fn,tmps:=a.tmps,params:=ps,assign,body,defers:=w.heap.size}:=⟨_,rfl⟩;obtain⟨V,hV⟩:=eZ ((w.alloc (.deferred (some []))).alloc (.loop (R .ready none)));have sz:V.heap.size=D+2:=by rw[←hV,←hD];simp
 have atL:V.heap[D+1]?=some (.loop (R .ready none)):=by
  have:=World.alloc_heap_new (w.alloc (.deferred (some []))) (.loop (R .ready none))
  rw[World.size_alloc,hV,hD]at this;exact this
 have atD:V.heap[D]?=some (.deferred (some [])):=by
  rw[←hV,←hD];exact(Below.heap_alloc _ _ _ (by simp)).trans (World.alloc_heap_new w _)
 have start:I [] V:=by rw[←hV];exact hI.alloc _ (hI.alloc _ h0)
 have old:Bl w0 V:=by
  rw[←hV];exact hb0.trans ((((bQ _ w).alloc (nR _) _).alloc (by simp) _).mono hb0.size)
 refine⟨D+1,[{target:=.collected D,args:=#[]}],V,{target:=.fn (.func gf) lb,args:=#[.func (.yield (D+1)) #[] #[]]},V,gf,#[.func (.yield (D+1)) #[] #[]]++lb,V,?_,?_,?_,?_,fun _=>h1,?_⟩
 ·rw[←hV,←hD,hR];exact run_enterLoop_outer _ _ _ _ _
 ·simp only[resolve,hg];simp[go_sem]
 ·intro f' hf';simp[Target.leads]at hf';subst hf';exact hFg
 ·simp[invoke,go_sem,eg]
 rw[hD]at hI hKb hround hdone;have book:AbidesFrom V.heap.size fun pre W=>I pre W∧W.heap[D+1]?=some (.loop (R .ready none))∧W.heap[D]?=some (.deferred (some [])):=fun s X Y row hs hg' hr=>
  ⟨hI s X Y row hs.1 hg' fun r e=>by obtain⟨hB,o,ho,hw⟩:=hr r e;exact⟨by omega,o,ho,Obj.not_cells_of_walk hw⟩,
   (grownBy_keeps hg' (fun r e=>(hr r e).2) hs.2.1 rfl).trans hs.2.1,(grownBy_keeps hg' (fun r e=>(hr r e).2) hs.2.2 rfl).trans hs.2.2⟩
 refine(hseq (D+1) _ V old book (fun pre x W hJ hpre=>?_) ⟨start,atL,atD⟩).mono ?_
 ·obtain⟨hi,hl,hk⟩:=hJ
  have hlt:D+1<W.heap.size:=(Array.getElem?_eq_some_iff.1 hl).1;have hy:=run_yield (P:=P) (args:=x) hl (by rw[hR];exact hps x (hpre.subset (by simp)));rw[hR]at hy;refine⟨fn,_,assign,body,hy,roundIn_of_wpIn hfn (wpIn_mono (hround (D+1) pre x W hi hpre) ?_)⟩;clear hy;rintro e a' W' h;cases e with
  | ret=>exact h
  | exit id=>exact h
  | goto t=>exact h
  | panic ch=>exact h
  | outgrown=>exact h
  | normal=>
  obtain⟨kA,pA,I2,hI2,hi2,hbody⟩:=h;have hl':=kA.same _ _ (by omega) hl rfl;have hk':=kA.same _ _ (nR _) hk rfl;have hlt':D+1<W'.heap.size:=(Array.getElem?_eq_some_iff.1 hl').1;refine⟨_,run_beginRound hl' (by rw[hR]),?_⟩;have b2:(W'.putObj (D+1) (.loop {R .ready none with state:=.busy})).heap[D+1]?=some (.loop {R .ready none with state:=.busy}):=World.putObj_heap_same hlt';have d2:(W'.putObj (D+1) (.loop {R .ready none with state:=.busy})).heap[D]?=some (.deferred (some [])):=(World.putObj_heap_other (by omega)).trans hk';refine wpIn_mono (hbody _ (hI2.putObj _ hi2 (by omega) hl' rfl)) ?_;rintro e a3 W3 hp;cases e with
  | normal=>
   obtain⟨k3,p3,i3⟩:=hp;have l3:=k3.same _ _ (by omega) b2 rfl;have hr:=run_endRound (P:=P) none l3;rw[hR]at hr l3;refine⟨_,_,hr,rfl,⟨hI.putObj _ i3 (by omega) l3 rfl,?_,?_⟩,hKt pA (hKt (hKt (hKb _ _ _ _ (by omega) hl' rfl rfl) p3) (hKb _ _ _ _ (by omega) l3 rfl rfl))⟩
   ·rw[hR];exact World.putObj_heap_same (Array.getElem?_eq_some_iff.1 l3).1
   ·exact(World.putObj_heap_other (by omega)).trans (k3.same _ _ (nR _) d2 rfl)
  | ret=>exact hp.2.elim
  | exit id=>exact hp.2.elim
  | goto t=>exact hp.2.elim
  | panic ch=>exact hp.elim
  | outgrown=>exact hp.elim
 ·rintro e W2 ⟨⟨v,rfl⟩,hi,hl,hk⟩
  exact⟨none,_,by have:=run_endLoop (P:=P) hl (by rw[hR];simp);rw[hR]at this;exact this,hdone _ _ (nR _) (hI.putObj _ hi (by omega) hl rfl) ((World.putObj_heap_other (by omega)).trans hk)⟩
