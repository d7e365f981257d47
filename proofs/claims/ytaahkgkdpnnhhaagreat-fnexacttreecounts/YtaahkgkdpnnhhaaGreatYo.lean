import Derived.Test.YtaahkgkdpnnhhaaGreatSq30
set_option maxHeartbeats 9999999
set_option maxRecDepth 99999
set_option linter.all false
namespace Go.Proofs.YtaahkgkdpnnhhaaGreat
open Go.RowKit Fo
def aKF(o:TO):List Value:=[.int .i64 o.1,.int .i64 o.2.1,.string o.2.2.1,.string o.2.2.2]
def yO:Ely TO where
 cell:=aKF
 n:=4
 z:=(0,0,.empty,.empty)
 zv:=.agg #[.int .i64 0,.int .i64 0,.string .empty,.string .empty]
 t:=63
 s:=27
 by':=48
 hn:=fun _=>rfl
 hp:=by omega
 one:=fun a v hv=>by simp only[aKF,List.mem_cons,List.not_mem_nil,or_false]at hv;rcases hv with rfl | rfl | rfl | rfl<;>rfl
 hz:=by kernel_rfl
 us:=Tryz.underlying27
 hb:=by omega
 info:=tN (by kernel_rfl)
def aDG(a:An):List Value:=[.int .i64 a.1,.int .i64 a.2.1,.string a.2.2]
def yA:Ely An where
 cell:=aDG
 n:=3
 z:=(0,0,.empty)
 zv:=.agg #[.int .i64 0,.int .i64 0,.string .empty]
 t:=92
 s:=46
 by':=32
 hn:=fun _=>rfl
 hp:=by omega
 one:=fun a v hv=>by simp only[aDG,List.mem_cons,List.not_mem_nil,or_false]at hv;rcases hv with rfl | rfl | rfl<;>rfl
 hz:=by kernel_rfl
 us:=Tryz.underlying46
 hb:=by omega
 info:=tN (by kernel_rfl)
theorem Ely.make{α:Type}(Y:Ely α)(n:Nat)(hn:n≤1048576)(w:World):(Instr.makeSlice Y.s (.int .i64 (n:Int)) (.int .i64 (n:Int))).run Tryz.prog w=.ok (.slice (some ⟨w.heap.size,0,none⟩) n n) (w.alloc (.cells (Y.row (List.replicate n Y.z)) Y.t)):=by
 obtain⟨i,hi,hs,hby,hz⟩:=Y.info;have hb:=Y.hb;have hbb:(i.bytes:Int)*(n:Int)≤281474976710656:=by
  have h1:i.bytes*n≤64*1048576:=Nat.mul_le_mul (by omega) hn;have h2:((i.bytes*n:Nat):Int)≤((64*1048576:Nat):Int):=by omega
  rw[Int.natCast_mul]at h2;omega
 have hr:=run_make (P:=Tryz.prog) w Y.s Y.t i _ Y.us hi hz .i64 .i64 n n (by omega) (Int.le_refl _) hbb (by omega);simp only[Int.toNat_natCast,hs]at hr;have e:madeCells Y.zv.cells (n*Y.n)=Y.row (List.replicate n Y.z):=by
  have h1:=Y.zeroL n;have h2:Y.zv.cells.size=Y.n:=by rw[Y.hz];simp[Y.hn]
  unfold Builtin.zeroCells at h1;rw[h2]at h1;unfold madeCells;rw[h2];exact h1
 rw[e]at hr;exact hr
theorem Ely.setAt{α:Type}(Y:Ely α){w:World}{g:Nat}{l:List α}(h:IsC w g (Y.row l) Y.t){i:Nat}(hi:i<l.length)(a:α):IsC (w.setCells g (i*Y.n) (Y.cell a)) g (Y.row (l.set i a)) Y.t:=by
 have hl:i*Y.n+(Y.cell a).length≤(l.flatMap Y.cell).length:=by
  rw[Y.hn,Y.len];have:(i+1)*Y.n≤l.length*Y.n:=Nat.mul_le_mul_right _ hi;rw[Nat.succ_mul]at this;exact this
 have:=IsC.sets (Y.cell a) (i*Y.n) h hl
 have e:Go.Proofs.YtaahkgkdpnnhhaaGreat.spl (l.flatMap Y.cell) (i*Y.n) (Y.cell a)=(l.set i a).flatMap Y.cell:=by
  have h1:=Y.spl l [a] i;simp only[List.flatMap_cons,List.flatMap_nil,List.append_nil]at h1;rw[h1];congr 1;unfold Go.Proofs.YtaahkgkdpnnhhaaGreat.spl;rw[List.set_eq_take_append_cons_drop,if_pos hi];simp
 rw[e]at this;exact this
theorem aKM{w:World}{u:Value}{l:List TO}(h:yO.Sl w u l)(hl:0<l.length):∃g o c,u=.slice (some ⟨g,o,none⟩) l.length c∧g<w.heap.size∧∀(w':World) (i:Nat),(w'.heap[g]?=w.heap[g]?)→i<l.length→w'.cell? ⟨g,o+i*4,none⟩=some (.int .i64 (l.getD i yO.z).1)∧w'.cell? ⟨g,o+i*4+1,none⟩=some (.int .i64 (l.getD i yO.z).2.1)∧w'.cell? ⟨g,o+i*4+2,none⟩=some (.string (l.getD i yO.z).2.2.1)∧w'.cell? ⟨g,o+i*4+3,none⟩=some (.string (l.getD i yO.z).2.2.2):=by
 obtain⟨g,o,c,e,hg,hc⟩:=h.at hl;refine⟨g,o,c,e,hg,fun w' i he hi=>?_⟩;have hw:∀k,w'.cell? ⟨g,k,none⟩=w.cell? ⟨g,k,none⟩:=fun k=>by simp[World.cell?,he]
 refine⟨?_,?_,?_,?_⟩
 ·rw[hw];exact hc i 0 hi (by decide)
 ·rw[hw];exact hc i 1 hi (by decide)
 ·rw[hw];exact hc i 2 hi (by decide)
 ·rw[hw];exact hc i 3 hi (by decide)
def z7:Array Value:=#[.int .i64 0,.slice none 0 0,.slice none 0 0,.int .i64 0,.int .i64 0,.slice none 0 0,.slice none 0 0]
theorem aLH(W:World):(Instr.build 57 #[]).run Tryz.prog W=.ok (.agg z7) W:=by kernel_rfl
theorem buildA01'(W:World)(c v:Int):(Instr.build 92 #[(0,.int .i64 c),(1,.int .i64 v)]).run Tryz.prog W=.ok (.agg #[.int .i64 c,.int .i64 v,.string .empty]) W:=by kernel_rfl
theorem oR{a:Array Value}{w:World}{B:Nat}{x:Array Value}{v5 v6:Value}(h:IsC w B x 57)(hx:x.size=7)(e:a.getD 4 undef=.pointer (some ⟨B,0,none⟩))(e5:a.getD 5 undef=v5)(e6:a.getD 6 undef=v6):(results Tryz.f32 a).run Tryz.prog w=.ok (.tuple #[.agg x,v5,v6]) w:=by
 have l:=jY h (by kernel_rfl) (by rw[hx];kernel_rfl);simp only[Array.getD_eq_getD_getElem?]at e e5 e6;simp[results,Tryz.f32,e,e5,e6,asAddr,l]
theorem Ely.Own.frm'{α:Type}{Y:Ely α}{S:Nat→Prop}{base:Nat}{w w':World}{u:Value}{l:List α}(h:Y.Own base w u l)(k:Frm S w w')(hS:∀g,base≤g→g<w.heap.size→¬S g):Y.Own base w' u l:=by
 obtain⟨a,junk,e,hr,hb⟩:=h;exact⟨a,junk,e,hr.frm k (fun g eg=>hS g (hb g eg) (hr.arr g eg).lt),hb⟩
structure RuP(w:World)(n:Int)(ops:List TO)(e:Ending)(w':World):Prop where
 dev:inB n 8 512=false→e=.returned (.tuple #[.agg z7,.slice none 0 0,.int .i64 1])
 lim:inB n 8 512=true→2000<ops.length→e=.returned (.tuple #[.agg z7,.slice none 0 0,.int .i64 4])
 ok:inB n 8 512=true→ops.length≤2000→∃A u,e=.returned (.tuple #[.agg (aL A (jL (aH n.toNat) ops)),u,.int .i64 0])∧SpV w' A (jL (aH n.toNat) ops)∧(∃a k c,A.tv=.slice a k c)∧yA.Own w.heap.size w' u (iS (aH n.toNat) ops)
 bel:Bl w w'
structure RuI(w:World)(f0:fZ)(ops:List TO)(B4 B7 base k:Nat)(u:Value)(wr:World):Prop where
 b4:IsC wr B4 z7 57
 sp:∃A,Sp wr B7 A (jL f0 (ops.take k))∧∃a k c,A.tv=.slice a k c
 own:yA.Own base wr u (iS f0 (ops.take k))
 bel:Bl w wr
 sz:base≤wr.heap.size
theorem RuI.next{w W5 w7:World}{f0 g:fZ}{ops:List TO}{B4 B7 base k:Nat}{u:Value}{A:SA}(h4:IsC W5 B4 z7 57)(hSp:Sp W5 B7 A g)(hg:jL f0 (ops.take k)=g)(htv:∃a k c,A.tv=.slice a k c)(hb:Bl w W5)(hsz:base≤W5.heap.size)(ho:yA.Own base w7 u (iS f0 (ops.take k)))(hF:Frm (fun k=>base≤k∧∃cs,IsC W5 k cs yA.t) W5 w7)(hbs:w.heap.size≤base):RuI w f0 ops B4 B7 base k u w7:=by
 have no:∀{g cs t},IsC W5 g cs t→t≠92→¬(base≤g∧∃cs,IsC W5 g cs yA.t):=fun {g cs t} h1 h2 h3=>by
  obtain⟨cs',h4⟩:=h3.2;exact h1.type_ne h4 h2 rfl
 refine⟨h4.frm hF (no h4 (by decide)),⟨A,?_,htv⟩,ho,hb.trans (hF.below hb.size fun g q=>by omega),lT hsz hF.size⟩;rw[hg];exact⟨hSp.box.frm hF (no hSp.box (by decide)),hSp.v.frm hF (fun g cs t ht hg=>no hg (by rcases ht with e | e | e | e<;>rw[e]<;>decide))⟩
theorem vN(n:Int)(ops:List TO)(v:Value)(w:World)(hv:yO.Sl w v ops)(hl:ops.length≤1048576):Calls Tryz.prog 32 #[.int .i64 n,v] w (RuP w n ops):=by
 have hbz:=aLH;have hba:=buildA01';have hz7:z7.size=7:=rfl;have hzone:z7.all (·.oneCell')=true:=by simp[z7,Value.oneCell']
 obtain⟨va,vc,hve⟩:=hv.len;obtain⟨B4,hB4⟩:=eZ (w.heap.size);obtain⟨w1,hw1⟩:=eZ (w.alloc (.cells #[.int .i64 0,.slice none 0 0,.slice none 0 0,.int .i64 0,.int .i64 0,.slice none 0 0,.slice none 0 0] 57));have b1:=bAl hw1;have c1:=iNw hw1 hB4;have HV:=aA (aI hv hve);subst hve;clear hv;go_enter Tryz.func32,Tryz.ntmps32;go_wp2_with fail;refine(iI n w1).mono ?_;rintro e w1' ⟨rfl,rfl⟩;cases hin:inB n 8 512 with
 | false=>
  have HIN:=aA hin;clear hin;go_upto_region 2 with fail
  refine wp_region_list ?_;refine wpList_plain rfl (fun K2 hK2=>?_);go_simp;refine hK2 _ _ ?_;clear hK2 K2;try simp only[Act.put,sB,sZ,sS]
  refine wpList_plain rfl (fun K2 hK2=>?_);refine aK _ _ _ rfl B4 c1 rfl rfl hz7 (by kernel_rfl) hzone fun wa ja jaF=>?_;refine hK2 _ _ ?_;clear hK2 K2;have HF:Hid (RuP w n ops (.returned (.tuple #[.agg z7,.slice none 0 0,.int .i64 1])) wa):=⟨fun _=>rfl,fun q=>(by rw[HIN.out]at q;cases q),fun q=>(by rw[HIN.out]at q;cases q),b1.trans (jaF.below b1.size fun g q=>by rw[q];omega)⟩;clear jaF;try simp only[Act.put,sB,sZ,sS]
  refine wpList_plain rfl (fun K2 hK2=>?_);go_simp;refine hK2 _ _ ?_;clear hK2 K2;refine wpList_plain rfl (fun K2 hK2=>?_);go_simp;refine hK2 _ _ ?_;clear hK2 K2;refine wpList_nil ?_;go_wp2;refine bodyPost_ret (v:=.tuple #[.agg z7,.slice none 0 0,.int .i64 1]) (oR ja hz7 rfl rfl rfl) rfl ?_;exact HF.out
 | true=>
  have HIN:=aA hin;by_cases h2:2000<ops.length
  ·have h2i:(2000:Int) <(ops.length:Int):=by omega
   clear hin;go_upto_region 4 with fail
   refine wp_region_list ?_;refine wpList_plain rfl (fun K2 hK2=>?_);go_simp;refine hK2 _ _ ?_;clear hK2 K2;try simp only[Act.put,sB,sZ,sS]
   refine wpList_plain rfl (fun K2 hK2=>?_);refine aK _ _ _ rfl B4 c1 rfl rfl hz7 (by kernel_rfl) hzone fun wa ja jaF=>?_;refine hK2 _ _ ?_;clear hK2 K2;have HF:Hid (RuP w n ops (.returned (.tuple #[.agg z7,.slice none 0 0,.int .i64 4])) wa):=⟨fun q=>(by rw[HIN.out]at q;cases q),fun _ _=>rfl,fun _ q=>absurd q (by omega),b1.trans (jaF.below b1.size fun g q=>by rw[q];omega)⟩;clear jaF;try simp only[Act.put,sB,sZ,sS]
   refine wpList_plain rfl (fun K2 hK2=>?_);go_simp;refine hK2 _ _ ?_;clear hK2 K2;refine wpList_plain rfl (fun K2 hK2=>?_);go_simp;refine hK2 _ _ ?_;clear hK2 K2;refine wpList_nil ?_;go_wp2;refine bodyPost_ret (v:=.tuple #[.agg z7,.slice none 0 0,.int .i64 4]) (oR ja hz7 rfl rfl rfl) rfl ?_;exact HF.out
  ·have h2i:¬(2000:Int) <(ops.length:Int):=by omega
   have hnn:8≤n∧n≤512:=by unfold inB at hin;simpa using hin
   obtain⟨N,hN⟩:∃N:Nat,n=(N:Int):=⟨n.toNat,by omega⟩;have HNE:Hid (n.toNat=N):=(show n.toNat=N by omega);subst hN;clear hin;have hI0:=Inv.fresh (n:=N) (by omega) (by omega);have hVE0:=uA N;go_upto_region 5 with fail
   refine wp_region_list ?_;refine wpList_plain rfl (fun K2 hK2=>?_);go_simp;refine hK2 _ _ ?_;clear hK2 K2;refine wpList_plain rfl (fun K2 hK2=>?_);go_simp;refine(yR N (by omega) (by omega) w1).mono ?_;rintro e w2 ⟨⟨A0,rfl,hV0,htv0⟩,hb2⟩;refine hK2 _ _ ?_;clear hK2 K2;have hone0:=dO hV0 htv0;have hsz0:=cU A0 (aH N);obtain⟨X0,hX0⟩:=eZ (aL A0 (aH N));rw[hX0]at hone0 hsz0;rw[hX0];obtain⟨w3,hw3⟩:=eZ (w2.alloc (.cells #[.int .i64 0,.slice none 0 0,.slice none 0 0,.int .i64 0,.int .i64 0,.slice none 0 0,.slice none 0 0] 57));obtain⟨B7,hB7⟩:=eZ (w2.heap.size);have i7:=iNw hw3 hB7;have hb3:=bAl hw3;refine wpList_plain rfl (fun K2 hK2=>?_);go_simp;refine hK2 _ _ ?_;clear hK2 K2;refine wpList_plain rfl (fun K2 hK2=>?_);refine aK _ _ _ rfl B7 i7 rfl rfl (hsz0.trans hz7.symm) (by rw[hsz0];kernel_rfl) hone0 fun w4 j7 jF=>?_;have hb24:Bl w2 w4:=hb3.trans (jF.below hb3.size fun k e=>by omega);have hb14:=hb2.trans (hb24.mono hb2.size);have hb04:=b1.trans (hb14.mono b1.size);have i4:IsC w4 B4 z7 57:=c1.of (hb14.block _ c1.lt);have hSp4:Sp w4 B7 A0 (aH N):=⟨by rw[hX0];exact j7,hV0.below hb24⟩;have hB7w:w.heap.size≤B7∧B4<B7:=by have:=b1.size;have:=hb2.size;have:=c1.lt;omega
   refine hK2 _ _ ?_;clear hK2 K2 j7 jF i7 hw3 hw1 hb3 hb24 c1 hX0 hone0 hsz0;refine wpList_nil ?_;try simp only[Act.put,sB,sZ,sS]
   obtain⟨base,hbase⟩:=eZ (w4.heap.size);obtain⟨w5,hw5⟩:=eZ (w4.alloc (.cells #[] 92));have hb5:=bAl hw5;have HST:Hid (RuI w (aH N) ops B4 B7 base 0 (.slice (some ⟨base,0,none⟩) 0 0) w5):=⟨i4.of (hb5.block _ i4.lt),⟨A0,hSp4.below hb5,htv0⟩,by rw[←hw5];exact Ely.Own.lit (Y:=yA) base w4 (Nat.le_of_eq hbase.symm) base hbase.symm,hb04.trans (hb5.mono hb04.size),by have:=hb5.size;omega⟩;have hbw:w.heap.size≤base∧B7<base:=by have:=hb04.size;have:=hSp4.box.lt;omega
   clear hSp4 i4 hV0 hb5 hb14 hb2;go_wp2;go_loopw [8,9] (fun u i wr=>∃k:Nat,k≤ops.length∧i=.int .i64 k∧RuI w (aH N) ops B4 B7 base k u wr) (fun _ i _=>ops.length -(intOf i).toNat)
   case atStart=>exact⟨0,by omega,rfl,HST.out⟩
   case round=>
    clear HST hw5;obtain⟨k,hk,rfl,hC⟩:=hrel;obtain⟨A,hSp,htv⟩:=hC.sp;by_cases hlt:k<ops.length
    ·obtain⟨g,o,cc,hve,hgw,hcell⟩:=aKM HV.out.1 (by omega)
     simp only[Value.slice.injEq,true_and]at hve;obtain⟨rfl,rfl⟩:=hve;have hki:(k:Int) <(ops.length:Int):=by omega
     have hkp:=tY hI0 hVE0 (ops.take k);obtain⟨s1,s2⟩:=yX (aH N) (ops.take k) (ops.getD k yO.z);rw[←cG ops k yO.z hlt]at s1 s2;have hOl:(iS (aH N) (ops.take k)).length<1000000:=by rw[jO,List.length_take];omega
     have HS1:=aA s1;have HS2:=aA s2;obtain⟨⟨kind,tree,key,val⟩,hop⟩:∃x,ops.getD k yO.z=x:=⟨_,rfl⟩;rw[hop]at HS1 HS2;have HCE:Hid (∀wq:World,Bl w wq→wq.cell? ⟨g,o+k*4,none⟩=some (.int .i64 kind)∧wq.cell? ⟨g,o+k*4+1,none⟩=some (.int .i64 tree)∧wq.cell? ⟨g,o+k*4+2,none⟩=some (.string key)∧wq.cell? ⟨g,o+k*4+3,none⟩=some (.string val)):=fun wq hb=>by
      have:=hcell wq k (hb.block g hgw) hlt
      rw[hop]at this;exact this
     obtain⟨B10,hB10⟩:=eZ (wr.heap.size);obtain⟨wa,hwa⟩:=eZ (wr.alloc (.cells #[.int .i64 0,.int .i64 0,.string {data:=#[]}] 92));have hba1:=bAl hwa;have ia:=iNw hwa hB10;have h4a:=hC.b4.of (hba1.block _ hC.b4.lt);have hSpa:=hSp.below hba1;have hOw:=hC.own;have hba0:Bl w wa:=hC.bel.trans (hba1.mono hC.bel.size);have hB10b:base≤B10:=by have:=hC.sz;omega
     obtain⟨x0,x1,x2,x3⟩:=HCE.out wa hba0;have hbsa:base≤wa.heap.size:=lT hC.sz hba1.size;have HH4:=aA h4a;have HSP:=aA hSpa;have HOA:=aA hOw;have hInv:=hkp.inv;have hVEk:=hkp.ve;obtain⟨F,hF⟩:=eZ (jL (aH N) (ops.take k));rw[hF]at HS1 HS2 hInv hVEk HSP;have HB7:=aA HSP.out.box;clear hcell hkp s1 s2 hC hSp h4a hSpa hOw hF hop;obtain⟨lA,hlA⟩:=eZ (iS (aH N) (ops.take k));rw[hlA]at HS2 HOA hOl;clear hlA;by_cases h5:kind=5
     ·subst h5
      have HD:Hid (doM F 5 tree key val=cP F):=by unfold doM;rw[if_pos rfl];rfl
      rw[HD.out]at HS1 HS2;go_wp2_with fail;refine(xB hInv wa B7 A HSP.out htv).mono ?_;rintro e wb ⟨⟨A',a0,n0,c0,a1,n1,c1,rv,rfl,hval,hn0,hn1,hSpb,htvb⟩,hFb⟩;have hne10:B10≠B7:=by omega
      have ib:=ia.frm hFb (fun e=>hne10 e);have h4b:=HH4.out.frm hFb (fun e=>by omega);have hbb0:Bl w wb:=hba0.trans (hFb.below hba0.size fun g e=>by rw[e];exact hB7w.1);have hbsb:base≤wb.heap.size:=lT hbsa hFb.size;have y0:wb.cell? ⟨B10,0,none⟩=some (.int .i64 0):=ib.c rfl;have y1:wb.cell? ⟨B10,1,none⟩=some (.int .i64 0):=ib.c rfl;have y2:wb.cell? ⟨B10,2,none⟩=some (.string {data:=#[]}):=ib.c rfl;have q0:=ib.frozen 0;have q1:=ib.frozen 1;have q2:=ib.frozen 2;obtain⟨cd,hcd⟩:=eZ ((cP F).2.1);have HAN:Hid ((cP F).2=(cd,(n0:Int)+(n1:Int),{data:=#[]})):=by
       rw[←hcd,hval];show(cP F).2=((cP F).2.1,(cP F).2.2.1,{data:=#[]})
       have:(cP F).2.2.2=({data:=#[]}:ByteArray):=by unfold cP;split;rfl;split<;>rfl
       rw[←this]
      rw[hcd];have FW:=fA wb B10 (.int .i64 cd) (.int .i64 ((n0:Int)+(n1:Int))) (.string {data:=#[]});obtain⟨W5,hW5⟩:=eZ (((wb.setCell ⟨B10,0,none⟩ (.int .i64 cd)).setCell ⟨B10,1,none⟩ (.int .i64 ((n0:Int)+(n1:Int)))).setCell ⟨B10,2,none⟩ (.string {data:=#[]}));have iW:=((ib.set 0 (.int .i64 cd)).set 1 (.int .i64 ((n0:Int)+(n1:Int)))).set 2 (.string {data:=#[]});rw[hW5]at FW iW;have u0:W5.cell? ⟨B10,0,none⟩=some (.int .i64 cd):=iW.c rfl;have u1:W5.cell? ⟨B10,1,none⟩=some (.int .i64 ((n0:Int)+(n1:Int))):=iW.c rfl;have u2:W5.cell? ⟨B10,2,none⟩=some (.string {data:=#[]}):=iW.c rfl;have h4W:=h4b.frm FW (fun e=>by omega);have hSpW:Sp W5 B7 A' (cP F).1:=⟨hSpb.box.frm FW (fun e=>hne10 e.symm),hSpb.v.frm FW (fun g cs t ht hg e=>by
       subst e;refine hg.type_ne ib ?_ rfl;rcases ht with e | e | e | e<;>rw[e]<;>decide)⟩
      have F5:Frm (fun k=>k=B7∨k=B10) wr W5:=((Frm.of_below hba1).trans (hFb.wide fun _ _ q=>.inl q)).trans (FW.wide fun _ _ q=>.inr q);have hO5:=HOA.out.frm' F5 (fun g hg1 hg2 e=>by omega);have hb5:Bl w W5:=hbb0.trans (FW.below hbb0.size fun g e=>by rw[e];omega);have hbs5:base≤W5.heap.size:=lT hbsa (lT hFb.size FW.size);have HG5:=aA (aI h4W (aI hSpW (aI htvb hb5)));have HR1:Hid (jL (aH N) (ops.take (k+1))=(cP F).1):=HS1.out;have HR2:Hid (iS (aH N) (ops.take (k+1))=lA++[(cd,(n0:Int)+(n1:Int),{data:=#[]})]):=by have:=HS2.out;rw[HAN.out]at this;exact this
      clear h4W hSpW F5 FW iW h4b hSpb ib hFb HS1 HS2 HAN HD HH4 HSP HB7 hval;go_wp2_with (first | (at_builtin;refine yA.wpApp1 rfl _ _ rfl hO5 rfl (cd,(n0:Int)+(n1:Int),{data:=#[]}) rfl rfl hOl hbs5 ?_;intro v' w7 hown1 hbel1 k5;have HNX:=aA (RuI.next HG5.out.1 HG5.out.2.1 HR1.out HG5.out.2.2.1 HG5.out.2.2.2 hbs5 (by rw[HR2.out];exact hown1) k5 hbw.1);clear hown1 hbel1 k5 hO5) | go_in);go_roundw
      case rel=>exact⟨k+1,by omega,by go_num,HNX.out⟩
      case measure=>simp[intOf];omega
     ·have HD:Hid (doM F kind tree key val=opM F kind tree key val):=by unfold doM;rw[if_neg h5];rfl
      rw[HD.out]at HS1 HS2;have hone:=dO HSP.out.v htv;have hszA:=cU A F;have HOPC:=aA fun(wz:World) (hz:Bl wa wz)=>aHA hInv hVEk kind tree key val h5 wz A (HSP.out.v.below hz) htv;obtain⟨XS,hXS⟩:=eZ (aL A F);rw[hXS]at hone hszA HOPC HB7;have hq0:IsC wa.drew B7 XS 57∧wa.drew.cell? ⟨g,o+k*4,none⟩=some (.int .i64 kind)∧wa.drew.cell? ⟨g,o+k*4+1,none⟩=some (.int .i64 tree)∧wa.drew.cell? ⟨g,o+k*4+2,none⟩=some (.string key)∧wa.drew.cell? ⟨g,o+k*4+3,none⟩=some (.string val):=⟨HB7.out.drew,x0,x1,x2,x3⟩;go_upto_region 14 with fail
      refine pU (fun W=>IsC W B7 XS 57∧W.cell? ⟨g,o+k*4,none⟩=some (.int .i64 kind)∧W.cell? ⟨g,o+k*4+1,none⟩=some (.int .i64 tree)∧W.cell? ⟨g,o+k*4+2,none⟩=some (.string key)∧W.cell? ⟨g,o+k*4+3,none⟩=some (.string val)) 7 (by kernel_rfl) ?_;refine eC (i:=0) 52 (.agg XS) (by kernel_rfl) (by kernel_rfl) rfl (by kernel_rfl) (by kernel_rfl) (by kernel_rfl) (fun _ _ _ h=>h) rfl rfl hq0 (fun w' hw=>kQ _ _ rfl B7 hw.1 rfl (by kernel_rfl) (by rw[hszA];kernel_rfl)) ?_;simp only[Act.put,sB,sZ,sS];refine eC (i:=1) 53 (.slice (some ⟨g,o,none⟩) ops.length vc) (by kernel_rfl) (by kernel_rfl) rfl (by kernel_rfl) (by kernel_rfl) (by kernel_rfl) (fun _ _ _ h=>h) rfl rfl hq0 (fun w' hw=>by obtain⟨_,m1,m2,m3,m4⟩:=hw;go_simp;try rfl) ?_;simp only[Act.put,sB,sZ,sS];refine eC (i:=2) 54 (.int .i64 k) (by kernel_rfl) (by kernel_rfl) rfl (by kernel_rfl) (by kernel_rfl) (by kernel_rfl) (fun _ _ _ h=>h) rfl rfl hq0 (fun w' hw=>by obtain⟨_,m1,m2,m3,m4⟩:=hw;go_simp;try rfl) ?_;simp only[Act.put,sB,sZ,sS];refine eC (i:=3) 55 (.pointer (some ⟨g,o+k*4,none⟩)) (by kernel_rfl) (by kernel_rfl) rfl (by kernel_rfl) (by kernel_rfl) (by kernel_rfl) (fun _ _ _ h=>h) rfl rfl hq0 (fun w' hw=>by obtain⟨_,m1,m2,m3,m4⟩:=hw;go_simp;try rfl) ?_;simp only[Act.put,sB,sZ,sS];refine eC (i:=4) 56 (.agg #[.int .i64 kind,.int .i64 tree,.string key,.string val]) (by kernel_rfl) (by kernel_rfl) rfl (by kernel_rfl) (by kernel_rfl) (by kernel_rfl) (fun _ _ _ h=>h) rfl rfl hq0 (fun w' hw=>by obtain⟨_,m1,m2,m3,m4⟩:=hw;go_simp;try rfl) ?_;simp only[Act.put,sB,sZ,sS];refine fS (i:=5) (by kernel_rfl) rfl rfl (fun K2 hK2=>?_);go_simp;refine(HOPC.out wa.drew (bQ _ _).drew).mono ?_;rintro e wb ⟨⟨A',rfl,hSVb,htvb⟩,hbb⟩;have hbb1:Bl wa wb:=(bQ wa.heap.size wa).drew.trans hbb;have hbb0:=hba0.trans (hbb1.mono hba0.size);have hB7b:=HB7.out.of (hbb1.block _ HB7.out.lt);have hqb:IsC wb B7 XS 57∧wb.cell? ⟨g,o+k*4,none⟩=some (.int .i64 kind)∧wb.cell? ⟨g,o+k*4+1,none⟩=some (.int .i64 tree)∧wb.cell? ⟨g,o+k*4+2,none⟩=some (.string key)∧wb.cell? ⟨g,o+k*4+3,none⟩=some (.string val):=⟨hB7b,HCE.out wb hbb0⟩;have hone':=dO hSVb htvb;have hszA':=cU A' (opM F kind tree key val).1;have HSV:=aA hSVb;obtain⟨X',hX'⟩:=eZ (aL A' (opM F kind tree key val).1);rw[hX']at hone' hszA';rw[hX'];obtain⟨⟨cd,vl,st⟩,han⟩:∃x,(opM F kind tree key val).2=x:=⟨_,rfl⟩;have HAN:=aA han;rw[han];simp only[bO];refine hK2 _ _ (fun _=>hqb) ?_;clear hK2 K2 hSVb;refine fS (i:=6) (by kernel_rfl) rfl rfl (fun K2 hK2=>?_);go_simp;refine hK2 _ _ (fun _=>hqb) ?_;clear hK2 K2;refine qZ (i:=7) 58 (.agg X') (by omega) rfl (by kernel_rfl) (by kernel_rfl) (by kernel_rfl) (fun _ _ _ h=>h) rfl rfl (fun w'=>by go_simp;try rfl) ?_;simp only[Act.put,sB,sZ,sS];refine qZ (i:=8) 59 (.agg #[.int .i64 cd,.int .i64 vl,.string st]) (by omega) rfl (by kernel_rfl) (by kernel_rfl) (by kernel_rfl) (fun _ _ _ h=>h) rfl rfl (fun w'=>by go_simp;try rfl) ?_;simp only[Act.put,sB,sZ,sS];refine fS (i:=9) (by kernel_rfl) rfl rfl (fun K2 hK2=>?_);refine aK _ _ _ rfl B7 hB7b rfl rfl (hszA'.trans hszA.symm) (by rw[hszA'];kernel_rfl) hone' fun wc jc jcF=>?_;refine hK2 _ _ (fun q=>absurd q (by omega)) ?_;clear hK2 K2;have hne10:B10≠B7:=by omega
      have ic:=(ia.of (hbb1.block _ ia.lt)).frm jcF (fun e=>hne10 e);refine fS (i:=10) (by kernel_rfl) rfl rfl (fun K2 hK2=>?_);refine aK (vs:=#[.int .i64 cd,.int .i64 vl,.string st]) _ _ _ rfl B10 ic rfl rfl rfl (by kernel_rfl) (by simp[Value.oneCell']) fun W5 iW FW=>?_;refine hK2 _ _ (fun q=>absurd q (by omega)) ?_;clear hK2 K2;refine pM (by kernel_rfl) ?_ _;have u0:W5.cell? ⟨B10,0,none⟩=some (.int .i64 cd):=iW.c rfl;have u1:W5.cell? ⟨B10,1,none⟩=some (.int .i64 vl):=iW.c rfl;have u2:W5.cell? ⟨B10,2,none⟩=some (.string st):=iW.c rfl;have hFc:Frm (fun k=>k=B7∨k=B10) wb W5:=(jcF.wide fun _ _ q=>.inl q).trans (FW.wide fun _ _ q=>.inr q);have h4W:=(HH4.out.of (hbb1.block _ HH4.out.lt)).frm hFc (fun e=>by omega);have hSpW:Sp W5 B7 A' (opM F kind tree key val).1:=⟨by rw[hX'];exact jc.frm FW (fun e=>hne10 e.symm),HSV.out.frm hFc (fun g cs t ht hg e=>by
       rcases e with e | e
       ·subst e
        refine hg.type_ne hB7b ?_ rfl;rcases ht with e | e | e | e<;>rw[e]<;>decide
       ·subst e
        refine hg.type_ne (ia.of (hbb1.block _ ia.lt)) ?_ rfl;rcases ht with e | e | e | e<;>rw[e]<;>decide)⟩
      have F5:Frm (fun k=>k=B7∨k=B10) wr W5:=((Frm.of_below hba1).trans (Frm.of_below hbb1)).trans hFc;have hO5:=HOA.out.frm' F5 (fun g hg1 hg2 e=>by omega);have hb5:Bl w W5:=hbb0.trans (hFc.below hbb0.size fun g e=>by omega);have hbs5:base≤W5.heap.size:=lT hbsa (lT hbb1.size hFc.size);have HG5:=aA (aI h4W (aI hSpW (aI htvb hb5)));have HR1:Hid (jL (aH N) (ops.take (k+1))=(opM F kind tree key val).1):=HS1.out;have HR2:Hid (iS (aH N) (ops.take (k+1))=lA++[(cd,vl,st)]):=by have:=HS2.out;rw[HAN.out]at this;exact this
      clear h4W hSpW F5 FW iW jc jcF hFc hB7b hqb ic HS1 HS2 HAN HD HH4 HSP HB7 HSV HOPC han hX' hXS hq0 hbb hbb1;go_wp2_with (first | (at_builtin;refine yA.wpApp1 rfl _ _ rfl hO5 rfl (cd,vl,st) rfl rfl hOl hbs5 ?_;intro v' w7 hown1 hbel1 k5;have HNX:=aA (RuI.next HG5.out.1 HG5.out.2.1 HR1.out HG5.out.2.2.1 HG5.out.2.2.2 hbs5 (by rw[HR2.out];exact hown1) k5 hbw.1);clear hown1 hbel1 k5 hO5) | go_in);go_roundw
      case rel=>exact⟨k+1,by omega,by go_num,HNX.out⟩
      case measure=>simp[intOf];omega
    ·obtain rfl:k=ops.length:=by omega
     have hki:¬((ops.length:Nat):Int) <((ops.length:Nat):Int):=by omega
     have hone:=dO hSp.v htv;have hszA:=cU A (jL (aH N) (ops.take ops.length));have HB7:=aA hSp.box;have HB4:=aA hC.b4;have HFI:Hid (∀wz:World,Frm (fun k=>k=B4) wr wz→RuP w (N:Int) ops (.returned (.tuple #[.agg (aL A (jL (aH N) (ops.take ops.length))),u8,.int .i64 0])) wz):=fun wz hF=>by
      refine⟨fun q=>(by rw[HIN.out]at q;cases q),fun _ q=>absurd q h2,fun _ _=>?_,hC.bel.trans (hF.below hC.bel.size fun g e=>by rw[e];omega)⟩;rw[HNE.out];have e:ops.take ops.length=ops:=List.take_of_length_le (nR _);refine⟨A,u8,by rw[e],?_,htv,?_⟩
      ·have:=hSp.v.frm hF (fun g cs t ht hg e=>by
        subst e;refine hg.type_ne hC.b4 ?_ rfl;rcases ht with e | e | e | e<;>rw[e]<;>decide)
       rw[e]at this;exact this
      ·have:=hC.own.frm' hF (fun g h1 _ e=>by omega)
       rw[e]at this;exact this.base hbw.1
     generalize aL A (jL (aH N) (ops.take ops.length))=XS at hone hszA HB7 HFI;clear hC hSp;go_upto_region 16 with fail
     refine wp_region_list ?_;refine wpList_plain rfl (fun K2 hK2=>?_);refine cJ _ rfl B7 HB7.out rfl hszA ?_;refine hK2 _ _ ?_;clear hK2 K2;try simp only[Act.put,sB,sZ,sS]
     refine wpList_plain rfl (fun K2 hK2=>?_);go_simp;refine hK2 _ _ ?_;clear hK2 K2;try simp only[Act.put,sB,sZ,sS]
     refine wpList_plain rfl (fun K2 hK2=>?_);refine aK _ _ _ rfl B4 HB4.out rfl rfl (hszA.trans hz7.symm) (by rw[hszA];kernel_rfl) hone fun wz jz jzF=>?_;refine hK2 _ _ ?_;clear hK2 K2;try simp only[Act.put,sB,sZ,sS]
     have HF:=aA (HFI.out wz jzF);clear HFI jzF;refine wpList_plain rfl (fun K2 hK2=>?_);go_simp;refine hK2 _ _ ?_;clear hK2 K2;refine wpList_plain rfl (fun K2 hK2=>?_);go_simp;refine hK2 _ _ ?_;clear hK2 K2;refine wpList_nil ?_;go_wp2;refine bodyPost_ret (v:=.tuple #[.agg XS,u8,.int .i64 0]) (oR jz hszA rfl rfl rfl) rfl ?_;exact HF.out
