import Derived.Test.YtaahkgkdpnnhhaaGreatSq21
set_option maxHeartbeats 9999999
set_option maxRecDepth 99999
set_option linter.all false
namespace Go.Proofs.YtaahkgkdpnnhhaaGreat
open Go.RowKit Fo
theorem IsC.range{w:World}{g:Nat}{cs:Array Value}{t:TypeId}(h:IsC w g cs t):w.rangeAt g 0 cs.toList:=fun j v hv=>by
 rw[Nat.zero_add,h.cell];simpa using hv
theorem IsC.there{w:World}{g:Nat}{cs:Array Value}{t:TypeId}(h:IsC w g cs t):w.there g 0 cs.size:=fun j hj=>by
 rw[Nat.zero_add,h.cell];exact⟨by simp[hj],h.frozen j⟩
theorem IsC.lay{w:World}{g:Nat}{cs vs:Array Value}{t:TypeId}(h:IsC w g cs t)(hs:vs.size=cs.size):IsC (w.setCells g 0 vs.toList) g vs t:=by
 have:=IsC.sets (cs:=cs.toList) vs.toList 0 (by simpa using h) (by simp;omega)
 have e:spl cs.toList 0 vs.toList=vs.toList:=by
  unfold spl;rw[List.take_zero,List.nil_append,List.drop_of_length_le (by simp;omega),List.append_nil]
 rw[e]at this;simpa using this
theorem aK{o:Oper}{a:Act}{w:World}{K:Act→World→Prop}{Q:Exit→Act→World→Prop}(ty:TypeId)(x y:Operand)(ho:o.op=.store ty x y)(g:Nat){cs vs:Array Value}(hg:IsC w g cs ty)(hx:a.eval x=.pointer (some ⟨g,0,none⟩))(hy:a.eval y=.agg vs)(hs:vs.size=cs.size)
  (hi:(Tryz.prog.info? ty).map (·.size)=some vs.size) (h1:vs.all (·.oneCell')=true) (h:∀w',IsC w' g vs ty→Frm (fun k=>k=g) w w'→K (a.put o.dst undef) w'):o.wp Tryz.prog a w K Q:=
 wp_store_mid ty x y ho g 0 vs hx hy (by rw[hs];exact hg.there) hi h1 (h _ (hg.lay hs) (Frm.sets (S:=fun k=>k=g) _ rfl _ _))
theorem kQ{o:Oper}{a:Act}{w:World}(ty:TypeId)(x:Operand)(ho:o.op=.load ty x)(g:Nat){cs:Array Value}(hg:IsC w g cs ty)(hx:a.eval x=.pointer (some ⟨g,0,none⟩))(hr:(Tryz.prog.underlying ty).map (·.isRow)=some true)(hi:(Tryz.prog.info? ty).map (·.size)=some cs.size):
  (execOp a.eval o).run Tryz.prog w=.ok (.value (.agg cs)) w:=by
 obtain⟨d,hu,hd⟩:∃d,Tryz.prog.underlying ty=some d∧d.isRow=true:=by
  cases e:Tryz.prog.underlying ty with
  | none=>rw[e]at hr;cases hr
  | some d=>rw[e]at hr;exact⟨d,rfl,by simpa using hr⟩
 unfold execOp;simp only[ho,hx,Instr.loadAt,Instr.sureAddr,Sem.run_bind,Sem.run_pure,Result.andThen_ok,run_loadVar_mid w g 0 ty cs.toList d hg.range hu hd (by simpa using hi),Array.toArray_toList]
theorem aES(c:Int)(w:World):Calls Tryz.prog 64 #[.int .i64 c] w fun e w'=>e=.returned (bO (c,0,.empty))∧Bl w w':=by
 have hb0:=jX;go_enter Tryz.func64,Tryz.ntmps64;go_wp2;have hc:=IsC.new w #[.int .i64 c,.int .i64 0,.string {data:=#[]}] 92;have u0:(w.alloc (.cells #[.int .i64 c,.int .i64 0,.string {data:=#[]}] 92)).cell? ⟨w.heap.size,0,none⟩=some (.int .i64 c):=hc.c rfl;have u1:(w.alloc (.cells #[.int .i64 c,.int .i64 0,.string {data:=#[]}] 92)).cell? ⟨w.heap.size,1,none⟩=some (.int .i64 0):=hc.c rfl;have u2:(w.alloc (.cells #[.int .i64 c,.int .i64 0,.string {data:=#[]}] 92)).cell? ⟨w.heap.size,2,none⟩=some (.string {data:=#[]}):=hc.c rfl;refine bodyPost_ret (v:=bO (c,0,.empty)) (by simp[bO,results,Tryz.results64,Tryz.f64,go_sem,u0,u1,u2];try rfl) rfl ?_;exact⟨rfl,(bQ _ w).alloc (nR _) _⟩
def aCG(pos:String)(d1 d2:Nat)(c:Int):Array Oper:=
 #[{dst:=some d1,op:=.load 57 (.tmp 2),type:=57,pos:=pos,after:=#[],guard:=none},
  {dst:=some d2,op:=.call {callee:=.value (.func 64),args:=#[.const (.int .i64 c)],argTypes:=#[2]},type:=92,pos:=pos,after:=#[],guard:=none},
  {dst:=none,op:=.store 57 (.tmp 4) (.tmp d1),type:=0,pos:=pos,after:=#[{on:=0,ground:=.data},{on:=1,ground:=.chain},{on:=0,ground:=.phase},{on:=1,ground:=.textOnly .lateStoresUnsure}],guard:=none},
  {dst:=none,op:=.store 92 (.tmp 5) (.tmp d2),type:=0,pos:=pos,after:=#[{on:=1,ground:=.data},{on:=2,ground:=.chain},{on:=0,ground:=.phase},{on:=1,ground:=.phase},{on:=2,ground:=.phase}],guard:=none}]
theorem fQ{ri:Nat}{pos:String}{d1 d2:Nat}{c:Int}{Q:Exit→Act→World→Prop}{a:Act}{w:World}{B2 B4 B5:Nat}{x y4 y5:Array Value}(h2:IsC w B2 x 57)(hx:x.size=7)(hone:x.all (·.oneCell')=true)(h4:IsC w B4 y4 57)(hy4:y4.size=7)(h5:IsC w B5 y5 92)(hy5:y5.size=3)
  (n24:B2≠B4) (e2:a.eval (.tmp 2)=.pointer (some ⟨B2,0,none⟩)) (e4:∀v1 v2,((a.put (some d1) v1).put (some d2) v2).eval (.tmp 4)=.pointer (some ⟨B4,0,none⟩)) (e5:∀v1 v2,((a.put (some d1) v1).put (some d2) v2).eval (.tmp 5)=.pointer (some ⟨B5,0,none⟩))
  (f1:∀v1 v2,((a.put (some d1) v1).put (some d2) v2).eval (.tmp d1)=v1) (f2:∀v1 v2,((a.put (some d1) v1).put (some d2) v2).eval (.tmp d2)=v2)
  (hfr:Region.free .any (aCG pos d1 d2 c) (Array.replicate (aCG pos d1 d2 c).size false) 0=true)
  (hQ:∀c a' w v,Q (.panic c) (a'.put (some d1) v) w→Q (.panic c) a' w)
  (h:∀w',IsC w' B4 x 57→IsC w' B5 #[.int .i64 c,.int .i64 0,.string .empty] 92→Frm (fun k=>k=B4∨k=B5) w w'→Q .normal ((a.put (some d1) (.agg x)).put (some d2) (bO (c,0,.empty))) w'):
  (Code.region ri (aCG pos d1 d2 c) true).wp Tryz.prog Q a w:=by
 refine aZ (fun W=>IsC W B2 x 57) 3 (by kernel_rfl) ?_;have h20:IsC w.drew B2 x 57:=h2.drew;refine vH (i:=0) d1 (.agg x) (by kernel_rfl) rfl (by kernel_rfl) hfr (by kernel_rfl) (fun c a' w hh=>hQ c a' w _ hh) rfl rfl h20 (fun w' hw=>kQ _ _ rfl B2 hw e2 (by kernel_rfl) (by rw[hx];kernel_rfl)) ?_;refine oE 1 rfl fun K2 hK2=>?_;show Oper.wp Tryz.prog {dst:=some d2,op:=.call {callee:=.value (.func 64),args:=#[.const (.int .i64 c)],argTypes:=#[2]},type:=92,pos:=pos,after:=#[],guard:=none} _ _ _ _
 go_simp
 refine(aES c w.drew).mono ?_;rintro e w1 ⟨rfl,hb1⟩;have hF1:Frm (fun _=>False) w w1:=(Frm.drew _ w).trans (Frm.of_below hb1);refine hK2 _ _ (fun _=>h2.frm hF1 id) ?_;clear hK2 K2;refine oE 2 rfl fun K2 hK2=>?_;refine aK _ _ _ rfl B4 (h4.frm hF1 id) (e4 _ _) (f1 _ _) (hx.trans hy4.symm) (by rw[hx];kernel_rfl) hone fun w2 k4 kF=>?_;have hF2:Frm (fun k=>k=B4) w w2:=(hF1.wide fun _ _ q=>q.elim).trans kF;have n45:B5≠B4:=h5.type_ne h4 (by decide);refine hK2 _ _ (fun _=>h2.frm hF2 n24) ?_;clear hK2 K2;refine oE 3 rfl fun K2 hK2=>?_;refine aK (vs:=#[.int .i64 c,.int .i64 0,.string .empty]) _ _ _ rfl B5 (h5.frm hF2 n45) (e5 _ _) (f2 _ _) hy5.symm (by kernel_rfl) (by simp[Value.oneCell']) fun w3 k5 kF5=>?_;refine hK2 _ _ (fun q=>absurd rfl q) ?_;clear hK2 K2;refine aV (by kernel_rfl) ?_ _;exact h w3 (k4.frm kF5 (Ne.symm n45)) k5 ((hF2.wide fun _ _ q=>.inl q).trans (kF5.wide fun _ _ q=>.inr q))
theorem cJ{o:Oper}{a:Act}{w:World}{K:Act→World→Prop}{Q:Exit→Act→World→Prop}(x:Operand)(ho:o.op=.load 57 x)(g:Nat){cs:Array Value}(hg:IsC w g cs 57)(hx:a.eval x=.pointer (some ⟨g,0,none⟩))(hi:cs.size=7)(h:K (a.put o.dst (.agg cs)) w):o.wp Tryz.prog a w K Q:=by
 unfold Oper.wp;rw[kQ _ x ho g hg hx (by kernel_rfl) (by rw[hi];kernel_rfl)];exact h
theorem cU(A:SA)(f:fZ):(aL A f).size=7:=rfl
theorem dO{w:World}{A:SA}{f:fZ}(h:SpV w A f)(ht:∃a n c,A.tv=.slice a n c):(aL A f).all (·.oneCell')=true:=by
 obtain⟨ma,mc,hcv⟩:=h.com.len;obtain⟨a,n,c,e⟩:=ht;unfold aL;rw[hcv,e];simp[Value.oneCell']
theorem Inv.cts{f:fZ}(h:Inv f):CtS f:=⟨h.ic,h.r16,fun b d hd=>by have:=h.ent hd;omega,h.cmr⟩
structure OpP(w:World)(r:fZ×An)(e:Ending)(w':World):Prop where
 ex:∃A',e=.returned (.tuple #[.agg (aL A' r.1),bO r.2])∧SpV w' A' r.1∧∃a n c,A'.tv=.slice a n c
 bel:Bl w w'
theorem jY{w:World}{g:Nat}{cs:Array Value}{ty:TypeId}(hg:IsC w g cs ty)(hr:(Tryz.prog.underlying ty).map (·.isRow)=some true)(hi:(Tryz.prog.info? ty).map (·.size)=some cs.size):(loadVar ty ⟨g,0,none⟩).run Tryz.prog w=.ok (.agg cs) w:=by
 obtain⟨d,hu,hd⟩:∃d,Tryz.prog.underlying ty=some d∧d.isRow=true:=by
  cases e:Tryz.prog.underlying ty with
  | none=>rw[e]at hr;cases hr
  | some d=>rw[e]at hr;exact⟨d,rfl,by simpa using hr⟩
 have:=run_loadVar_mid (P:=Tryz.prog) w g 0 ty cs.toList d hg.range hu hd (by simpa using hi)
 simpa using this
theorem bD{a:Array Value}{w:World}{B4 B5:Nat}{x y:Array Value}(h4:IsC w B4 x 57)(h5:IsC w B5 y 92)(hx:x.size=7)(hy:y.size=3)(e4:a.getD 4 undef=.pointer (some ⟨B4,0,none⟩))(e5:a.getD 5 undef=.pointer (some ⟨B5,0,none⟩)):
  (results Tryz.f52 a).run Tryz.prog w=.ok (.tuple #[.agg x,.agg y]) w:=by
 have l4:=jY h4 (by kernel_rfl) (by rw[hx];kernel_rfl);have l5:=jY h5 (by kernel_rfl) (by rw[hy];kernel_rfl);simp only[Array.getD_eq_getD_getElem?]at e4 e5;simp[results,Tryz.f52,e4,e5,asAddr,l4,l5]
theorem OpP.bad{w w':World}{A:SA}{f:fZ}(hS:SpV w A f)(htv:∃a n c,A.tv=.slice a n c)(hb:Bl w w')(c:Int):OpP w (f,c,0,.empty) (.returned (.tuple #[.agg (aL A f),.agg #[.int .i64 c,.int .i64 0,.string .empty]])) w':=
 ⟨⟨A,rfl,hS.below hb,htv⟩,hb⟩
theorem aEC{f:fZ}(kind tree:Int)(key val:ByteArray)(q0:inB kind 1 6=false)(w:World)(A:SA)(hS:SpV w A f)(htv:∃a n c,A.tv=.slice a n c):
  Calls Tryz.prog 52 #[.agg (aL A f),.agg #[.int .i64 kind,.int .i64 tree,.string key,.string val]] w (OpP w (opM f kind tree key val)):=by
 have hsz:=cU A f;have hone:=dO hS htv;have HBAD:=aA fun(w':World) (hb:Bl w w') (c:Int)=>OpP.bad hS htv hb c;obtain⟨XS,hXS⟩:=eZ (aL A f);rw[hXS]at hsz hone HBAD;rw[hXS];have HXS:=aA hXS;clear hXS;obtain⟨r,Hr⟩:∃r,Hid (opM f kind tree key val=r):=⟨_,rfl⟩;rw[Hr.out];obtain⟨w1,hw1⟩:=eZ (w.alloc (.cells XS 57));obtain⟨w2,hw2⟩:=eZ (w1.alloc (.cells #[.int .i64 kind,.int .i64 tree,.string key,.string val] 63));obtain⟨w3,hw3⟩:=eZ (w2.alloc (.cells #[.int .i64 0,.slice none 0 0,.slice none 0 0,.int .i64 0,.int .i64 0,.slice none 0 0,.slice none 0 0] 57));obtain⟨w4,hw4⟩:=eZ (w3.alloc (.cells #[.int .i64 0,.int .i64 0,.string {data:=#[]}] 92));obtain⟨B2,hB2⟩:=eZ (w.heap.size);obtain⟨B3,hB3⟩:=eZ (w1.heap.size);obtain⟨B4,hB4⟩:=eZ (w2.heap.size);obtain⟨B5,hB5⟩:=eZ (w3.heap.size);have hBx:∀(u:World) (o:Obj) (v:World),u.alloc o=v→Bl u v∧v.heap.size=u.heap.size+1:=fun u o v e=>by rw[←e];exact⟨(bQ _ u).alloc (nR _) _,by simp⟩
 have hNx:∀(u:World) (cs:Array Value) (ty:TypeId) (v:World),u.alloc (.cells cs ty)=v→IsC v u.heap.size cs ty:=fun u cs ty v e=>by rw[←e];exact IsC.new _ _ _
 obtain⟨b1,s1⟩:=hBx _ _ _ hw1;obtain⟨b2,s2⟩:=hBx _ _ _ hw2;obtain⟨b3,s3⟩:=hBx _ _ _ hw3;obtain⟨b4,s4⟩:=hBx _ _ _ hw4;have n2:=hNx _ _ _ _ hw1;have n3:=hNx _ _ _ _ hw2;have n4:=hNx _ _ _ _ hw3;have n5:=hNx _ _ _ _ hw4;rw[hB2]at n2;rw[hB3]at n3;rw[hB4]at n4;rw[hB5]at n5;have c34:Bl w3 w4:=b4;have c24:Bl w2 w4:=b3.trans (c34.mono (by omega));have c14:Bl w1 w4:=b2.trans (c24.mono (by omega));have c04:Bl w w4:=b1.trans (c14.mono (by omega));have i2:IsC w4 B2 XS 57:=n2.of (c14.block _ n2.lt);have i3:=n3.of (c24.block _ n3.lt);have i4:=n4.of (c34.block _ n4.lt);have m24:B2≠B4:=by omega
 have k0:w4.cell? ⟨B3,0,none⟩=some (.int .i64 kind):=i3.c rfl;have HD:=aA (aI s1 (aI s2 (aI s3 (aI s4 (aI hB2 (aI hB3 (aI hB4 hB5)))))));have HLO:Hid (w.heap.size≤B4∧w.heap.size≤B5):=(show _∧_ from by omega);have HB5:Hid (∀(wz w':World),Bl w wz→Frm (fun k=>k=B4∨k=B5) wz w'→Bl w w'):=fun wz w' hb hF=>hb.trans (hF.below hb.size fun k e=>by have:=HLO.out;rcases e with e | e<;>omega);have hA5:inB kind 1 6=false→aX f kind tree key val=(0,5):=fun q=>by unfold aX;rw[if_pos q]
 clear hBx hNx b1 b2 b3 b4 n2 n3 n4 c34 c24 c14 s1 s2 s3 s4;go_enter Tryz.func52,Tryz.ntmps52;have HA:Hid (r=(f,5,0,.empty)):=by
  show r=_
  rw[←Hr.out];unfold opM;rw[hA5 q0];rfl
 rw[HA.out];by_cases q1:kind<1
 ·clear hA5
  go_wp2
  refine fQ (d1:=23) (d2:=24) (c:=5) i2 hsz hone i4 rfl n5 rfl m24 rfl (fun _ _=>rfl) (fun _ _=>rfl) (fun _ _=>rfl) (fun _ _=>rfl) (by kernel_rfl) (fun _ _ _ _ h=>h) (fun w' j4 j5 jF=>?_);clear i2 i3 i4 n5 k0;simp only[Act.put,sB,sZ,sS];go_wp2;refine bodyPost_ret (v:=.tuple #[.agg XS,.agg #[.int .i64 5,.int .i64 0,.string .empty]]) (bD j4 j5 hsz rfl rfl rfl) rfl ?_;exact HBAD.out w' (HB5.out _ _ c04 jF) 5
 ·have q2:6<kind:=by unfold inB at q0;simp at q0;omega
  clear hA5;go_wp2;refine fQ (d1:=23) (d2:=24) (c:=5) i2 hsz hone i4 rfl n5 rfl m24 rfl (fun _ _=>rfl) (fun _ _=>rfl) (fun _ _=>rfl) (fun _ _=>rfl) (by kernel_rfl) (fun _ _ _ _ h=>h) (fun w' j4 j5 jF=>?_);clear i2 i3 i4 n5 k0;simp only[Act.put,sB,sZ,sS];go_wp2;refine bodyPost_ret (v:=.tuple #[.agg XS,.agg #[.int .i64 5,.int .i64 0,.string .empty]]) (bD j4 j5 hsz rfl rfl rfl) rfl ?_;exact HBAD.out w' (HB5.out _ _ c04 jF) 5
theorem SpV.frmB{w w':World}{A:SA}{f:fZ}{B4 B5:Nat}{y4 y5:Array Value}(h:SpV w A f)(h4:IsC w B4 y4 57)(h5:IsC w B5 y5 92)(hF:Frm (fun k=>k=B4∨k=B5) w w'):SpV w' A f:=
 ⟨h.nds.frm hF (fun g cs k e=>e.elim (k.type_ne h4 (by decide)) (k.type_ne h5 (by decide))) (fun e=>e.elim (h.nds.arr.type_ne h4 (by decide)) (h.nds.arr.type_ne h5 (by decide))),h.ln,h.rts.frm hF (fun e=>e.elim (h.rts.type_ne h4 (by decide)) (h.rts.type_ne h5 (by decide))),h.rs,h.com.frm hF (fun g cs k e=>e.elim (k.type_ne h4 (by decide)) (k.type_ne h5 (by decide)))⟩
theorem OpP.good{w w9 w':World}{A2:SA}{g:fZ}{B6 B4 B5:Nat}{y4 y5:Array Value}(hS:Sp w9 B6 A2 g)(htv:∃a n c,A2.tv=.slice a n c)(h4:IsC w9 B4 y4 57)(h5:IsC w9 B5 y5 92)(hF:Frm (fun k=>k=B4∨k=B5) w9 w')(hb:Bl w w')(a:An):OpP w (g,a) (.returned (.tuple #[.agg (aL A2 g),bO a])) w':=
 ⟨⟨A2,rfl,hS.v.frmB h4 h5 hF,htv⟩,hb⟩
theorem buildA01(W:World)(c v:Int):(Instr.build 92 #[(0,.int .i64 c),(1,.int .i64 v)]).run Tryz.prog W=.ok (.agg #[.int .i64 c,.int .i64 v,.string .empty]) W:=by kernel_rfl
theorem vO{f:fZ}(hI:Inv f)(kind tree:Int)(key val:ByteArray)(h5:kind≠5)(h12:kind=1∨kind=2→(aX f kind tree key val).2≠0)(w:World)(A:SA)(hS:SpV w A f)(htv:∃a n c,A.tv=.slice a n c):
  Calls Tryz.prog 52 #[.agg (aL A f),.agg #[.int .i64 kind,.int .i64 tree,.string key,.string val]] w (OpP w (opM f kind tree key val)):=by
 by_cases q0:inB kind 1 6=false
 ·exact aEC kind tree key val q0 w A hS htv
 have H12:=aA h12;clear h12;have hsz:=cU A f;have hone:=dO hS htv;have HBAD:=aA fun(w':World) (hb:Bl w w') (c:Int)=>OpP.bad hS htv hb c;obtain⟨XS,hXS⟩:=eZ (aL A f);rw[hXS]at hsz hone HBAD;rw[hXS];have HXS:=aA hXS;clear hXS;obtain⟨r,Hr⟩:∃r,Hid (opM f kind tree key val=r):=⟨_,rfl⟩;rw[Hr.out];obtain⟨w1,hw1⟩:=eZ (w.alloc (.cells XS 57));obtain⟨w2,hw2⟩:=eZ (w1.alloc (.cells #[.int .i64 kind,.int .i64 tree,.string key,.string val] 63));obtain⟨w3,hw3⟩:=eZ (w2.alloc (.cells #[.int .i64 0,.slice none 0 0,.slice none 0 0,.int .i64 0,.int .i64 0,.slice none 0 0,.slice none 0 0] 57));obtain⟨w4,hw4⟩:=eZ (w3.alloc (.cells #[.int .i64 0,.int .i64 0,.string {data:=#[]}] 92));obtain⟨B2,hB2⟩:=eZ (w.heap.size);obtain⟨B3,hB3⟩:=eZ (w1.heap.size);obtain⟨B4,hB4⟩:=eZ (w2.heap.size);obtain⟨B5,hB5⟩:=eZ (w3.heap.size);have hBx:∀(u:World) (o:Obj) (v:World),u.alloc o=v→Bl u v∧v.heap.size=u.heap.size+1:=fun u o v e=>by rw[←e];exact⟨(bQ _ u).alloc (nR _) _,by simp⟩
 have hNx:∀(u:World) (cs:Array Value) (ty:TypeId) (v:World),u.alloc (.cells cs ty)=v→IsC v u.heap.size cs ty:=fun u cs ty v e=>by rw[←e];exact IsC.new _ _ _
 obtain⟨b1,s1⟩:=hBx _ _ _ hw1;obtain⟨b2,s2⟩:=hBx _ _ _ hw2;obtain⟨b3,s3⟩:=hBx _ _ _ hw3;obtain⟨b4,s4⟩:=hBx _ _ _ hw4;have n2:=hNx _ _ _ _ hw1;have n3:=hNx _ _ _ _ hw2;have n4:=hNx _ _ _ _ hw3;have n5:=hNx _ _ _ _ hw4;rw[hB2]at n2;rw[hB3]at n3;rw[hB4]at n4;rw[hB5]at n5;have c34:Bl w3 w4:=b4;have c24:Bl w2 w4:=b3.trans (c34.mono (by omega));have c14:Bl w1 w4:=b2.trans (c24.mono (by omega));have c04:Bl w w4:=b1.trans (c14.mono (by omega));have i2:IsC w4 B2 XS 57:=n2.of (c14.block _ n2.lt);have i3:=n3.of (c24.block _ n3.lt);have i4:=n4.of (c34.block _ n4.lt);have m24:B2≠B4:=by omega
 have k0:w4.cell? ⟨B3,0,none⟩=some (.int .i64 kind):=i3.c rfl;have HD:=aA (aI s1 (aI s2 (aI s3 (aI s4 (aI hB2 (aI hB3 (aI hB4 hB5)))))));have HLO:Hid (w.heap.size≤B4∧w.heap.size≤B5):=(show _∧_ from by omega);have HB5:Hid (∀(wz w':World),Bl w wz→Frm (fun k=>k=B4∨k=B5) wz w'→Bl w w'):=fun wz w' hb hF=>hb.trans (hF.below hb.size fun k e=>by have:=HLO.out;rcases e with e | e<;>omega);have hA5:inB kind 1 6=false→aX f kind tree key val=(0,5):=fun q=>by unfold aX;rw[if_pos q]
 clear hBx hNx b1 b2 b3 b4 n2 n3 n4 c34 c24 c14 s1 s2 s3 s4;go_enter Tryz.func52,Tryz.ntmps52;have q2:1≤kind∧kind≤6:=by unfold inB at q0;simpa using q0
 obtain⟨q2,q3⟩:=q2;have q4:¬kind<1:=by omega
 have q5:¬6<kind:=by omega
 have HQ0:=aA q0;have hcp:=mM w4 A (hS.below c04) (by have:=hI.ic.n8;omega) hI.ic.n512 hI.ne (by have:=hI.r16;omega) htv;unfold stV at hcp;rw[HXS.out]at hcp;have HCP:=aA hcp;clear hA5 q0 hcp;go_upto_region 3 with fail
 refine wp_region_list ?_;refine wpList_plain rfl (fun K2 hK2=>?_);refine cJ _ rfl B2 i2 rfl hsz ?_;refine hK2 _ _ ?_;clear hK2 K2;simp only[Act.put,sB,sZ,sS];refine wpList_plain rfl (fun K2 hK2=>?_);go_simp;refine HCP.out.mono ?_;rintro e w5 ⟨A1,rfl,hS1,htv1,hga,hgr,hb5⟩;refine hK2 _ _ ?_;clear hK2 K2 HCP;have htv':∃a n c,A1.tv=.slice a n c:=by rw[htv1];exact htv
 have hone1:=dO hS1 htv';have hsz1:=cU A1 f;obtain⟨X1,hX1⟩:=eZ (aL A1 f);rw[hX1]at hone1 hsz1;rw[hX1];obtain⟨w6,hw6⟩:=eZ (w5.alloc (.cells #[.int .i64 0,.slice none 0 0,.slice none 0 0,.int .i64 0,.int .i64 0,.slice none 0 0,.slice none 0 0] 57));obtain⟨B6,hB6⟩:=eZ (w5.heap.size);have i6:=iNw hw6 hB6;have hb6:=bAl hw6;refine wpList_plain rfl (fun K2 hK2=>?_);go_simp;refine hK2 _ _ ?_;clear hK2 K2;refine wpList_plain rfl (fun K2 hK2=>?_);refine aK _ _ _ rfl B6 i6 rfl rfl hsz1 (by rw[hsz1];kernel_rfl) hone1 fun w7 j6 jF=>?_;have hb57:Bl w5 w7:=hb6.trans (jF.below hb6.size fun k e=>by omega);have hb47:=hb5.trans (hb57.mono hb5.size);have hb07:=c04.trans (hb47.mono c04.size);have i2':=i2.of (hb47.block _ i2.lt);have i3':=i3.of (hb47.block _ i3.lt);have i4':=i4.of (hb47.block _ i4.lt);have n5':=n5.of (hb47.block _ n5.lt);have hSp:Sp w7 B6 A1 f:=⟨by rw[hX1];exact j6,hS1.below hb57⟩;have HN6:Hid (w.heap.size≤B6∧B2<B6∧B4<B6):=(show _∧_∧_ from by have:=c04.size;have:=hb5.size;have:=i2.lt;have:=i4.lt;omega);have k0':w7.cell? ⟨B3,0,none⟩=some (.int .i64 kind):=i3'.c rfl;have k1':w7.cell? ⟨B3,1,none⟩=some (.int .i64 tree):=i3'.c rfl;have k2':w7.cell? ⟨B3,2,none⟩=some (.string key):=i3'.c rfl;have k3':w7.cell? ⟨B3,3,none⟩=some (.string val):=i3'.c rfl;refine hK2 _ _ ?_;clear hK2 K2 i2 i3 i4 n5 k0 i6 hw6 hw1 hw2 hw3 hw4 hb6 jF hb57 hb47 hB2 hB3 hB4 hB5 hB6 HD;refine wpList_nil ?_;simp only[Act.put,sB,sZ,sS];have hpl:=lI w7 B6 A1 hSp (by have:=hI.r16;omega) tree;go_wp2_with fail;refine hpl.mono ?_;rintro e w8 ⟨rfl,rfl⟩;clear hpl;cases hat:atT f tree with
 | none=>
  have HA:Hid (r=(f,8,0,.empty)):=by
   show r=_
   rw[←Hr.out];have ha:aX f kind tree key val=(0,8):=by unfold aX;rw[if_neg HQ0.out,if_neg h5,hat]
   unfold opM;rw[ha];rfl
  have hp:plZ f tree=-1:=by unfold plZ;rw[hat]
  rw[hp];clear hat hp;go_wp2;refine fQ (d1:=32) (d2:=33) (c:=8) i2' hsz hone i4' rfl n5' rfl m24 rfl (fun _ _=>rfl) (fun _ _=>rfl) (fun _ _=>rfl) (fun _ _=>rfl) (by kernel_rfl) (fun _ _ _ _ h=>h) (fun w' j4 j5 jF=>?_);clear i2' i3' i4' n5' k0' k1' k2' k3';simp only[Act.put,sB,sZ,sS];go_wp2;refine bodyPost_ret (v:=.tuple #[.agg XS,.agg #[.int .i64 8,.int .i64 0,.string .empty]]) (bD j4 j5 hsz rfl rfl rfl) rfl ?_;rw[HA.out];exact HBAD.out w' (HB5.out _ _ hb07 jF) 8
 | some t=>
  have htl:=(xH hat).1;have hp:plZ f tree=(t:Int):=by unfold plZ;rw[hat]
  have htn:¬((t:Int)<0):=by omega
  have hAM:aX f kind tree key val=if((kind=1∨kind=2∨kind=6)∧12<key.size)∨(kind=1∧10<val.size)then((0,4):Nat×Int)else(t,0):=by unfold aX;rw[if_neg HQ0.out,if_neg h5,hat]
  rw[hp];clear hat hp HQ0;by_cases hlim:((kind=1∨kind=2∨kind=6)∧12<key.size)∨(kind=1∧10<val.size)
  ·have HA:Hid (r=(f,4,0,.empty)):=by
    show r=_
    rw[←Hr.out];unfold opM;rw[hAM,if_pos hlim];rfl
   clear hAM Hr;by_cases hkl:12<key.size
   ·have hkI:(12:Int) <(key.size:Int):=by omega
    have hkk:kind=1∨kind=2∨kind=6:=by rcases hlim with⟨e,_⟩ | ⟨e,_⟩<;>simp[e]
    clear hlim;rcases hkk with rfl | rfl | rfl
    ·go_wp2
     refine fQ (d1:=65) (d2:=66) (c:=4) i2' hsz hone i4' rfl n5' rfl m24 rfl (fun _ _=>rfl) (fun _ _=>rfl) (fun _ _=>rfl) (fun _ _=>rfl) (by kernel_rfl) (fun _ _ _ _ h=>h) (fun w' j4 j5 jF=>?_);clear i2' i3' i4' n5' k0' k1' k2' k3';simp only[Act.put,sB,sZ,sS];go_wp2;refine bodyPost_ret (v:=.tuple #[.agg XS,.agg #[.int .i64 4,.int .i64 0,.string .empty]]) (bD j4 j5 hsz rfl rfl rfl) rfl ?_;rw[HA.out];exact HBAD.out w' (HB5.out _ _ hb07 jF) 4
    ·go_wp2
     refine fQ (d1:=65) (d2:=66) (c:=4) i2' hsz hone i4' rfl n5' rfl m24 rfl (fun _ _=>rfl) (fun _ _=>rfl) (fun _ _=>rfl) (fun _ _=>rfl) (by kernel_rfl) (fun _ _ _ _ h=>h) (fun w' j4 j5 jF=>?_);clear i2' i3' i4' n5' k0' k1' k2' k3';simp only[Act.put,sB,sZ,sS];go_wp2;refine bodyPost_ret (v:=.tuple #[.agg XS,.agg #[.int .i64 4,.int .i64 0,.string .empty]]) (bD j4 j5 hsz rfl rfl rfl) rfl ?_;rw[HA.out];exact HBAD.out w' (HB5.out _ _ hb07 jF) 4
    ·go_wp2
     refine fQ (d1:=65) (d2:=66) (c:=4) i2' hsz hone i4' rfl n5' rfl m24 rfl (fun _ _=>rfl) (fun _ _=>rfl) (fun _ _=>rfl) (fun _ _=>rfl) (by kernel_rfl) (fun _ _ _ _ h=>h) (fun w' j4 j5 jF=>?_);clear i2' i3' i4' n5' k0' k1' k2' k3';simp only[Act.put,sB,sZ,sS];go_wp2;refine bodyPost_ret (v:=.tuple #[.agg XS,.agg #[.int .i64 4,.int .i64 0,.string .empty]]) (bD j4 j5 hsz rfl rfl rfl) rfl ?_;rw[HA.out];exact HBAD.out w' (HB5.out _ _ hb07 jF) 4
   ·have hkI:¬(12:Int) <(key.size:Int):=by omega
    have hv:kind=1∧10<val.size:=by rcases hlim with⟨_,e⟩ | e;exact absurd e hkl;exact e
    obtain⟨rfl,hv⟩:=hv;have hvI:(10:Int) <(val.size:Int):=by omega
    clear hlim;go_wp2;refine fQ (d1:=65) (d2:=66) (c:=4) i2' hsz hone i4' rfl n5' rfl m24 rfl (fun _ _=>rfl) (fun _ _=>rfl) (fun _ _=>rfl) (fun _ _=>rfl) (by kernel_rfl) (fun _ _ _ _ h=>h) (fun w' j4 j5 jF=>?_);clear i2' i3' i4' n5' k0' k1' k2' k3';simp only[Act.put,sB,sZ,sS];go_wp2;refine bodyPost_ret (v:=.tuple #[.agg XS,.agg #[.int .i64 4,.int .i64 0,.string .empty]]) (bD j4 j5 hsz rfl rfl rfl) rfl ?_;rw[HA.out];exact HBAD.out w' (HB5.out _ _ hb07 jF) 4
  ·have hAM2:aX f kind tree key val=(t,0):=by rw[hAM,if_neg hlim]
   have n54:B5≠B4:=n5'.type_ne i4' (by decide);have hbd:=buildA01;have hbd2:=qT;obtain⟨hW,hrt,_⟩:=hI.hOf htl;have HKEEP:Hid (∀w9,Frm (fun k=>k=B6∨k=A1.ga∨k=A1.gr) w8 w9→Bl w w9∧IsC w9 B4 #[.int .i64 0,.slice none 0 0,.slice none 0 0,.int .i64 0,.int .i64 0,.slice none 0 0,.slice none 0 0] 57∧IsC w9 B5 #[.int .i64 0,.int .i64 0,.string {data:=#[]}] 92∧IsC w9 B2 XS 57∧IsC w9 B3 #[.int .i64 kind,.int .i64 tree,.string key,.string val] 63):=fun w9 hF=>by
    have h6:=HN6.out;have hga':=lT c04.size hga;have hgr':=lT c04.size hgr;refine⟨hb07.trans (hF.below hb07.size fun k e=>by rcases e with e | e | e<;>omega),i4'.frm hF ?_,n5'.frm hF ?_,i2'.frm hF ?_,i3'.frm hF ?_⟩
    ·rintro(e | e | e)
     ·omega
     ·exact i4'.type_ne hSp.v.nds.arr (by decide) e
     ·exact i4'.type_ne hSp.v.rts (by decide) e
    ·rintro(e | e | e)
     ·exact n5'.type_ne hSp.box (by decide) e
     ·exact n5'.type_ne hSp.v.nds.arr (by decide) e
     ·exact n5'.type_ne hSp.v.rts (by decide) e
    ·rintro(e | e | e)
     ·omega
     ·exact i2'.type_ne hSp.v.nds.arr (by decide) e
     ·exact i2'.type_ne hSp.v.rts (by decide) e
    ·rintro(e | e | e)
     ·exact i3'.type_ne hSp.box (by decide) e
     ·exact i3'.type_ne hSp.v.nds.arr (by decide) e
     ·exact i3'.type_ne hSp.v.rts (by decide) e
   by_cases e3:kind=3
   ·subst e3
    have HOP:Hid (r=lZ f t):=by
     show r=_
     rw[←Hr.out];unfold opM;rw[hAM2];rfl
    clear hAM hAM2 hlim Hr hga hgr;by_cases hq:16≤f.roots.length∨65535≤f.next
    ·have hno:=aBV (t:=t) hq w8 B6 A1 hSp
     have HR3:Hid (r=(f,4,0,.empty)):=by
      show r=_
      rw[HOP.out];unfold lZ;rw[if_pos hq]
     clear hq;go_wp2_with fail;refine hno.mono ?_;rintro e w9 ⟨rfl,rfl⟩;clear hno;go_upto_region 12 with fail
     refine wp_region_list ?_;refine wpList_plain rfl (fun K2 hK2=>?_);refine cJ _ rfl B6 j6 rfl hsz1 ?_;refine hK2 _ _ ?_;clear hK2 K2;simp only[Act.put,sB,sZ,sS];refine wpList_plain rfl (fun K2 hK2=>?_);go_simp;refine hK2 _ _ ?_;clear hK2 K2;refine wpList_plain rfl (fun K2 hK2=>?_);go_simp;refine hK2 _ _ ?_;clear hK2 K2;refine wpList_plain rfl (fun K2 hK2=>?_);go_simp;refine hK2 _ _ ?_;clear hK2 K2;refine wpList_plain rfl (fun K2 hK2=>?_);refine aK _ _ _ rfl B4 i4' rfl rfl hsz1 (by rw[hsz1];kernel_rfl) hone1 fun wa ja jaF=>?_;refine hK2 _ _ ?_;clear hK2 K2;simp only[Act.put,sB,sZ,sS];refine wpList_plain rfl (fun K2 hK2=>?_);refine aK (vs:=#[.int .i64 4,.int .i64 0,.string .empty]) _ _ _ rfl B5 (n5'.frm jaF n54) rfl rfl rfl (by kernel_rfl) (by simp[Value.oneCell']) fun wb jb jbF=>?_;refine hK2 _ _ ?_;clear hK2 K2;refine wpList_nil ?_;simp only[Act.put,sB,sZ,sS];have jF:Frm (fun k=>k=B4∨k=B5) w9 wb:=(jaF.wide fun _ _ q=>.inl q).trans (jbF.wide fun _ _ q=>.inr q);have ja':=ja.frm jbF (Ne.symm n54);have HFIN:=aA (show OpP w r (.returned (.tuple #[.agg X1,.agg #[.int .i64 4,.int .i64 0,.string ByteArray.empty]])) wb by rw[HR3.out,←hX1];exact OpP.good hSp htv' i4' n5' jF (HB5.out _ _ hb07 jF) (4,0,ByteArray.empty));clear ja jaF jbF jF;go_wp2;refine bodyPost_ret (v:=.tuple #[.agg X1,.agg #[.int .i64 4,.int .i64 0,.string .empty]]) (bD ja' jb hsz1 rfl rfl rfl) rfl ?_;exact HFIN.out
    ·have hyes:=zA hI.ic htl (by omega) ⟨by have:=hI.nx;omega,by omega⟩ w8 B6 A1 hSp
     have HR3:Hid (r=(cS f t,0,f.next,.empty)):=by
      show r=_
      rw[HOP.out];unfold lZ;rw[if_neg hq]
     clear hq;go_wp2_with fail;refine hyes.mono ?_;rintro e w9 ⟨rfl,⟨⟨A2,hSp2,ht2⟩,hF9⟩⟩;obtain⟨hb09,i49,n59,_⟩:=HKEEP.out w9 hF9;have htv2:∃a n c,A2.tv=.slice a n c:=by rw[ht2];exact htv'
     have hone2:=dO hSp2.v htv2;have hsz2:=cU A2 (cS f t);have j62:=hSp2.box;obtain⟨X2,hX2⟩:=eZ (aL A2 (cS f t));rw[hX2]at hone2 hsz2 j62;clear hyes hF9;go_upto_region 12 with fail
     refine wp_region_list ?_;refine wpList_plain rfl (fun K2 hK2=>?_);refine cJ _ rfl B6 j62 rfl hsz2 ?_;refine hK2 _ _ ?_;clear hK2 K2;simp only[Act.put,sB,sZ,sS];refine wpList_plain rfl (fun K2 hK2=>?_);go_simp;refine hK2 _ _ ?_;clear hK2 K2;refine wpList_plain rfl (fun K2 hK2=>?_);go_simp;refine hK2 _ _ ?_;clear hK2 K2;refine wpList_plain rfl (fun K2 hK2=>?_);go_simp;refine hK2 _ _ ?_;clear hK2 K2;refine wpList_plain rfl (fun K2 hK2=>?_);refine aK _ _ _ rfl B4 i49 rfl rfl hsz2 (by rw[hsz2];kernel_rfl) hone2 fun wa ja jaF=>?_;refine hK2 _ _ ?_;clear hK2 K2;simp only[Act.put,sB,sZ,sS];refine wpList_plain rfl (fun K2 hK2=>?_);refine aK (vs:=#[.int .i64 0,.int .i64 f.next,.string .empty]) _ _ _ rfl B5 (n59.frm jaF n54) rfl rfl rfl (by kernel_rfl) (by simp[Value.oneCell']) fun wb jb jbF=>?_;refine hK2 _ _ ?_;clear hK2 K2;refine wpList_nil ?_;simp only[Act.put,sB,sZ,sS];have jF:Frm (fun k=>k=B4∨k=B5) w9 wb:=(jaF.wide fun _ _ q=>.inl q).trans (jbF.wide fun _ _ q=>.inr q);have ja':=ja.frm jbF (Ne.symm n54);have HFIN:=aA (show OpP w r (.returned (.tuple #[.agg X2,.agg #[.int .i64 0,.int .i64 f.next,.string ByteArray.empty]])) wb by rw[HR3.out,←hX2];exact OpP.good hSp2 htv2 i49 n59 jF (HB5.out _ _ hb09 jF) (0,f.next,ByteArray.empty));clear ja jaF jbF jF;go_wp2;refine bodyPost_ret (v:=.tuple #[.agg X2,.agg #[.int .i64 0,.int .i64 f.next,.string .empty]]) (bD ja' jb hsz2 rfl rfl rfl) rfl ?_;exact HFIN.out
   by_cases e4:kind=4
   ·subst e4
    have HOP:Hid (r=oN f t):=by
     show r=_
     rw[←Hr.out];unfold opM;rw[hAM2];rfl
    clear hAM hAM2 hlim Hr hga hgr;by_cases hq:f.roots.length=1
    ·have hno:=aEQ (t:=t) hq w8 B6 A1 hSp
     have HR3:Hid (r=(f,18,0,.empty)):=by
      show r=_
      rw[HOP.out];unfold oN;rw[if_pos hq]
     clear hq;go_wp2_with fail;refine hno.mono ?_;rintro e w9 ⟨rfl,rfl⟩;clear hno;go_upto_region 15 with fail
     refine wp_region_list ?_;refine wpList_plain rfl (fun K2 hK2=>?_);refine cJ _ rfl B6 j6 rfl hsz1 ?_;refine hK2 _ _ ?_;clear hK2 K2;simp only[Act.put,sB,sZ,sS];refine wpList_plain rfl (fun K2 hK2=>?_);go_simp;refine hK2 _ _ ?_;clear hK2 K2;refine wpList_plain rfl (fun K2 hK2=>?_);go_simp;refine hK2 _ _ ?_;clear hK2 K2;refine wpList_plain rfl (fun K2 hK2=>?_);go_simp;refine hK2 _ _ ?_;clear hK2 K2;refine wpList_plain rfl (fun K2 hK2=>?_);refine aK _ _ _ rfl B4 i4' rfl rfl hsz1 (by rw[hsz1];kernel_rfl) hone1 fun wa ja jaF=>?_;refine hK2 _ _ ?_;clear hK2 K2;simp only[Act.put,sB,sZ,sS];refine wpList_plain rfl (fun K2 hK2=>?_);refine aK (vs:=#[.int .i64 18,.int .i64 0,.string .empty]) _ _ _ rfl B5 (n5'.frm jaF n54) rfl rfl rfl (by kernel_rfl) (by simp[Value.oneCell']) fun wb jb jbF=>?_;refine hK2 _ _ ?_;clear hK2 K2;refine wpList_nil ?_;simp only[Act.put,sB,sZ,sS];have jF:Frm (fun k=>k=B4∨k=B5) w9 wb:=(jaF.wide fun _ _ q=>.inl q).trans (jbF.wide fun _ _ q=>.inr q);have ja':=ja.frm jbF (Ne.symm n54);have HFIN:=aA (show OpP w r (.returned (.tuple #[.agg X1,.agg #[.int .i64 18,.int .i64 0,.string ByteArray.empty]])) wb by rw[HR3.out,←hX1];exact OpP.good hSp htv' i4' n5' jF (HB5.out _ _ hb07 jF) (18,0,ByteArray.empty));clear ja jaF jbF jF;go_wp2;refine bodyPost_ret (v:=.tuple #[.agg X1,.agg #[.int .i64 18,.int .i64 0,.string .empty]]) (bD ja' jb hsz1 rfl rfl rfl) rfl ?_;exact HFIN.out
    ·obtain⟨hg1,_,hg2,hg3,hg4,hg5,hg6,hg7,_,hg8⟩:=xA hI htl (by have:=hI.ne;omega) hW.ok
     have HR3:Hid (r=((drop f t (hOf f t)).1,0,(drop f t (hOf f t)).2,.empty)):=by
      show r=_
      rw[HOP.out];unfold oN;rw[if_neg hq]
     have hyes:=aCE (Inv.cts hI) (Inv.cts hg1) htl (by have:=hI.ne;omega) hg4 (fun b d hd=>by rcases hg8 b with e | e;rw[←e];exact hd;rw[e]at hd;cases hd) hg3 hg5 hg6 hg7 w8 B6 A1 hSp;rw[←hg2]at hyes;obtain⟨dn,hdn⟩:=eZ ((drop f t (hOf f t)).2);obtain⟨dg,hdg⟩:=eZ ((drop f t (hOf f t)).1);rw[hdn,hdg]at hyes HR3;clear hq hg1 hg2 hg3 hg4 hg5 hg6 hg7 hg8 hdn hdg;go_wp2_with fail;refine hyes.mono ?_;rintro e w9 ⟨rfl,⟨⟨A2,hSp2,ht2⟩,hF9⟩⟩;obtain⟨hb09,i49,n59,_⟩:=HKEEP.out w9 hF9;have htv2:∃a n c,A2.tv=.slice a n c:=by rw[ht2];exact htv'
     have hone2:=dO hSp2.v htv2;have hsz2:=cU A2 dg;have j62:=hSp2.box;obtain⟨X2,hX2⟩:=eZ (aL A2 dg);rw[hX2]at hone2 hsz2 j62;clear hyes hF9;go_upto_region 15 with fail
     refine wp_region_list ?_;refine wpList_plain rfl (fun K2 hK2=>?_);refine cJ _ rfl B6 j62 rfl hsz2 ?_;refine hK2 _ _ ?_;clear hK2 K2;simp only[Act.put,sB,sZ,sS];refine wpList_plain rfl (fun K2 hK2=>?_);go_simp;refine hK2 _ _ ?_;clear hK2 K2;refine wpList_plain rfl (fun K2 hK2=>?_);go_simp;refine hK2 _ _ ?_;clear hK2 K2;refine wpList_plain rfl (fun K2 hK2=>?_);go_simp;refine hK2 _ _ ?_;clear hK2 K2;refine wpList_plain rfl (fun K2 hK2=>?_);refine aK _ _ _ rfl B4 i49 rfl rfl hsz2 (by rw[hsz2];kernel_rfl) hone2 fun wa ja jaF=>?_;refine hK2 _ _ ?_;clear hK2 K2;simp only[Act.put,sB,sZ,sS];refine wpList_plain rfl (fun K2 hK2=>?_);refine aK (vs:=#[.int .i64 0,.int .i64 dn,.string .empty]) _ _ _ rfl B5 (n59.frm jaF n54) rfl rfl rfl (by kernel_rfl) (by simp[Value.oneCell']) fun wb jb jbF=>?_;refine hK2 _ _ ?_;clear hK2 K2;refine wpList_nil ?_;simp only[Act.put,sB,sZ,sS];have jF:Frm (fun k=>k=B4∨k=B5) w9 wb:=(jaF.wide fun _ _ q=>.inl q).trans (jbF.wide fun _ _ q=>.inr q);have ja':=ja.frm jbF (Ne.symm n54);have HFIN:=aA (show OpP w r (.returned (.tuple #[.agg X2,.agg #[.int .i64 0,.int .i64 dn,.string ByteArray.empty]])) wb by rw[HR3.out,←hX2];exact OpP.good hSp2 htv2 i49 n59 jF (HB5.out _ _ hb09 jF) (0,dn,ByteArray.empty));clear ja jaF jbF jF;go_wp2;refine bodyPost_ret (v:=.tuple #[.agg X2,.agg #[.int .i64 0,.int .i64 dn,.string .empty]]) (bD ja' jb hsz2 rfl rfl rfl) rfl ?_;exact HFIN.out
   have hget:=pE hI.ic htl hW.ok key w8 B6 A1 hSp;have hkI:¬(12:Int) <(key.size:Int):=fun q=>hlim (.inl ⟨by omega,by omega⟩);by_cases e6:kind=6
   ·subst e6
    have HOP:Hid (r=nZ f t key):=by
     show r=_
     rw[←Hr.out];unfold opM;rw[hAM2];rfl
    clear hAM hAM2 hlim Hr hga hgr HKEEP;cases hfd:Fo.find f.nodes (hOf f t) (aB f t) key with
    | none=>
     have HR3:Hid (r=(f,9,0,.empty)):=by show r=_;rw[HOP.out];unfold nZ;rw[hfd]
     rw[hfd]at hget;simp only[uE]at hget;clear hfd;go_wp2_with fail;refine hget.mono ?_;rintro e w9 ⟨rfl,hb9⟩;clear hget;have i29:=i2'.of (hb9.block _ i2'.lt);have i39:=i3'.of (hb9.block _ i3'.lt);have i49:=i4'.of (hb9.block _ i4'.lt);have n59:=n5'.of (hb9.block _ n5'.lt);have hb09:=hb07.trans (hb9.mono hb07.size);have hSp9:=hSp.below hb9;have j69:=hSp9.box;rw[hX1]at j69;have k09:w9.cell? ⟨B3,0,none⟩=some (.int .i64 6):=i39.c rfl;have k29:w9.cell? ⟨B3,2,none⟩=some (.string key):=i39.c rfl;have k39:w9.cell? ⟨B3,3,none⟩=some (.string val):=i39.c rfl;clear hb9 k0' k1' k2' k3' i2' i3' i4' n5';go_wp2;refine fQ (d1:=121) (d2:=122) (c:=9) i29 hsz hone i49 rfl n59 rfl m24 rfl (fun _ _=>rfl) (fun _ _=>rfl) (fun _ _=>rfl) (fun _ _=>rfl) (by kernel_rfl) (fun _ _ _ _ h=>h) (fun w' j4 j5 jF=>?_);simp only[Act.put,sB,sZ,sS];have HBB:=aA (HBAD.out w' (HB5.out _ _ hb09 jF) 9);clear jF;go_wp2;refine bodyPost_ret (v:=.tuple #[.agg XS,.agg #[.int .i64 9,.int .i64 0,.string .empty]]) (bD j4 j5 hsz rfl rfl rfl) rfl ?_;rw[HR3.out];exact HBB.out
    | some v=>
     have HR3:Hid (r=(f,0,0,v)):=by show r=_;rw[HOP.out];unfold nZ;rw[hfd]
     rw[hfd]at hget;simp only[uE]at hget;clear hfd;go_wp2_with fail;refine hget.mono ?_;rintro e w9 ⟨rfl,hb9⟩;clear hget;have i29:=i2'.of (hb9.block _ i2'.lt);have i39:=i3'.of (hb9.block _ i3'.lt);have i49:=i4'.of (hb9.block _ i4'.lt);have n59:=n5'.of (hb9.block _ n5'.lt);have hb09:=hb07.trans (hb9.mono hb07.size);have hSp9:=hSp.below hb9;have j69:=hSp9.box;rw[hX1]at j69;have k09:w9.cell? ⟨B3,0,none⟩=some (.int .i64 6):=i39.c rfl;have k29:w9.cell? ⟨B3,2,none⟩=some (.string key):=i39.c rfl;have k39:w9.cell? ⟨B3,3,none⟩=some (.string val):=i39.c rfl;clear hb9 k0' k1' k2' k3' i2' i3' i4' n5';go_upto_region 28 with fail
     refine wp_region_list ?_;refine wpList_plain rfl (fun K2 hK2=>?_);refine cJ _ rfl B6 j69 rfl hsz1 ?_;refine hK2 _ _ ?_;clear hK2 K2;simp only[Act.put,sB,sZ,sS];refine wpList_plain rfl (fun K2 hK2=>?_);go_simp;refine hK2 _ _ ?_;clear hK2 K2;refine wpList_plain rfl (fun K2 hK2=>?_);go_simp;refine hK2 _ _ ?_;clear hK2 K2;refine wpList_plain rfl (fun K2 hK2=>?_);refine aK _ _ _ rfl B4 i49 rfl rfl hsz1 (by rw[hsz1];kernel_rfl) hone1 fun wa ja jaF=>?_;refine hK2 _ _ ?_;clear hK2 K2;simp only[Act.put,sB,sZ,sS];refine wpList_plain rfl (fun K2 hK2=>?_);refine aK (vs:=#[.int .i64 0,.int .i64 0,.string v]) _ _ _ rfl B5 (n59.frm jaF n54) rfl rfl rfl (by kernel_rfl) (by simp[Value.oneCell']) fun wb jb jbF=>?_;refine hK2 _ _ ?_;clear hK2 K2;refine wpList_nil ?_;simp only[Act.put,sB,sZ,sS];have jF:Frm (fun k=>k=B4∨k=B5) w9 wb:=(jaF.wide fun _ _ q=>.inl q).trans (jbF.wide fun _ _ q=>.inr q);have ja':=ja.frm jbF (Ne.symm n54);have HFIN:=aA (show OpP w r (.returned (.tuple #[.agg X1,.agg #[.int .i64 0,.int .i64 0,.string v]])) wb by rw[HR3.out,←hX1];exact OpP.good hSp9 htv' i49 n59 jF (HB5.out _ _ hb09 jF) (0,0,v));clear ja jaF jbF jF;go_wp2;refine bodyPost_ret (v:=.tuple #[.agg X1,.agg #[.int .i64 0,.int .i64 0,.string v]]) (bD ja' jb hsz1 rfl rfl rfl) rfl ?_;exact HFIN.out
   ·exact absurd (by rw[hAM2]) (H12.out (by omega))
