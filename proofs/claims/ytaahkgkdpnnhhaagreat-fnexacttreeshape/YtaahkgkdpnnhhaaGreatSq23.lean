import Derived.Test.YtaahkgkdpnnhhaaGreatSq19
import Derived.Test.YtaahkgkdpnnhhaaGreatHq36
set_option maxHeartbeats 9999999
set_option maxRecDepth 99999
set_option linter.all false
namespace Go.Proofs.YtaahkgkdpnnhhaaGreat
open Go.RowKit Fo
variable{a:Act}{K:Act→World→Prop}{cs vs x y4 y5:Array Value}{Q:Exit→Act→World→Prop}{B4 B5 g t:Nat}{o:Oper}{A:SA}{w w':World}{f:fZ}
theorem aAY(hq:16≤f.roots.length∨65535≤f.next)(w:World)(S:Nat)(A:SA)(hS:Sp w S A f):
  Calls Tryz.prog 66 #[.pointer (some ⟨S,0,none⟩),.int .i64 t] w fun r w'=>r=.returned (.tuple #[.int .i64 0,.int .i64 4])∧w'=w:=by
 obtain⟨_,_,s2,s3,_⟩:=hS.cells;by_cases q:16≤f.roots.length
 ·have Lb:(16:Int)≤(f.roots.length:Int):=by omega
  clear hS hq q;go_enter Tryz.func66,Tryz.ntmps66;go_wp2;refine bodyPost_ret (v:=.tuple #[.int .i64 0,.int .i64 4]) (by simp[results,Tryz.f66,go_sem]) rfl ?_;exact⟨rfl,rfl⟩
 ·have Lb:¬((16:Int)≤(f.roots.length:Int)):=by omega
  have RT:(65535:Int)≤f.next:=hq.resolve_left q;clear hS hq q;go_enter Tryz.func66,Tryz.ntmps66;go_wp2;refine bodyPost_ret (v:=.tuple #[.int .i64 0,.int .i64 4]) (by simp[results,Tryz.f66,go_sem]) rfl ?_;exact⟨rfl,rfl⟩
theorem aDZ(h1:f.roots.length=1)(w:World)(S:Nat)(A:SA)(hS:Sp w S A f):
  Calls Tryz.prog 67 #[.pointer (some ⟨S,0,none⟩),.int .i64 t] w fun r w'=>r=.returned (.tuple #[.int .i64 0,.int .i64 18])∧w'=w:=by
 obtain⟨_,_,s2,_⟩:=hS.cells;rw[h1]at s2;clear hS;go_enter Tryz.func67,Tryz.ntmps67;go_wp2;refine bodyPost_ret (v:=.tuple #[.int .i64 0,.int .i64 18]) (by simp[results,Tryz.f67,go_sem]) rfl ?_;exact⟨rfl,rfl⟩
def opM(f:fZ)(kind tree:Int)(key val:ByteArray):fZ×An:=
 if(aY f kind tree key val).2≠0 then(f,(aY f kind tree key val).2,0,.empty)else
 if kind=1 then lV f (aY f kind tree key val).1 key val else
 if kind=2 then mF f (aY f kind tree key val).1 key else
 if kind=3 then lU f (aY f kind tree key val).1 else
 if kind=4 then nC f (aY f kind tree key val).1 else nH f (aY f kind tree key val).1 key
structure pG(f g:fZ):Prop where
 inv:Inv g
 ve:VE g
 gen:g.gen=f.gen
 com:g.com=f.com
 table:g.table=f.table
 cur:g.cur.length=f.cur.length
theorem pG.refl(h:Inv f)(hV:VE f):pG f f:=⟨h,hV,rfl,rfl,rfl,rfl⟩
theorem aGW(h:Inv f)(hV:VE f)(ht:t<f.roots.length)(key val:ByteArray):pG f (lV f t key val).1:=by
 obtain⟨hW,er,_⟩:=h.hOf ht;unfold lV;split
 ·exact .refl h hV
 ·rename_i g th hp
  split
  ·exact .refl h hV
  ·obtain⟨H',a,b,c⟩:=aBD hW er hp
   exact⟨h.after a b c,aLS hW hV hp,c.gen,c.com,c.table,c.cur⟩
theorem aGT(h:Inv f)(hV:VE f)(ht:t<f.roots.length)(key:ByteArray):pG f (mF f t key).1:=by
 obtain⟨hW,er,_⟩:=h.hOf ht;unfold mF;split
 ·exact .refl h hV
 ·rename_i v hf
  have hm:=kQ hW.ok hf;split
  ·exact .refl h hV
  ·rename_i g hp
   split
   ·exact .refl h hV
   ·obtain⟨H',a,b,c⟩:=vL hW er hm hp
    exact⟨h.after a b c,aFA hW er hm hV hp,c.gen,c.com,c.table,c.cur⟩
theorem aGR(h:Inv f)(hV:VE f)(ht:t<f.roots.length):pG f (lU f t).1:=by
 unfold lU;split
 ·exact .refl h hV
 ·rename_i hq
  exact⟨h.clone ht (by omega) (by omega),aID hV t,rfl,rfl,rfl,by simp[cU]⟩
theorem aGU(h:Inv f)(hV:VE f)(ht:t<f.roots.length):pG f (nC f t).1:=by
 obtain⟨hW,er,_⟩:=h.hOf ht;unfold nC;split
 ·exact .refl h hV
 ·obtain⟨a,_,_,b,_,_,c,d,e,_⟩:=wM h ht (by omega) hW.ok
  exact⟨a,aKE h hV ht (by omega) hW.ok,c,d,e,b⟩
theorem aGV(h:Inv f)(hV:VE f)(t:Nat)(key:ByteArray):pG f (nH f t key).1:=by
 unfold nH;split
 ·exact .refl h hV
 ·exact .refl h hV
theorem xP(h:Inv f){kind tree:Int}{key val:ByteArray}:(aY f kind tree key val).1<f.roots.length:=by
 have:=h.ne
 unfold aY;split
 ·exact this
 ·split
  ·exact this
  ·split
   ·exact this
   ·rename_i t ht
    split
    ·exact this
    ·exact(mC ht).1
theorem aJN(h:Inv f)(hV:VE f)(kind tree:Int)(key val:ByteArray):pG f (opM f kind tree key val).1:=by
 have ht:=xP h (kind:=kind) (tree:=tree) (key:=key) (val:=val);unfold opM;split
 ·exact .refl h hV
 ·split
  ·exact aGW h hV ht key val
  ·split
   ·exact aGT h hV ht key
   ·split
    ·exact aGR h hV ht
    ·split
     ·exact aGU h hV ht
     ·exact aGV h hV _ key
theorem IsC.range{t:TypeId}(h:IsC w g cs t):w.rangeAt g 0 cs.toList:=fun j v hv=>by
 rw[Nat.zero_add,h.cell];simpa using hv
theorem IsC.there{t:TypeId}(h:IsC w g cs t):w.there g 0 cs.size:=fun j hj=>by
 rw[Nat.zero_add,h.cell];exact⟨by simp[hj],h.frozen j⟩
theorem IsC.lay{t:TypeId}(h:IsC w g cs t)(hs:vs.size=cs.size):IsC (w.setCells g 0 vs.toList) g vs t:=by
 have:=IsC.sets (cs:=cs.toList) vs.toList 0 (by simpa using h) (by simp;omega)
 have e:spl cs.toList 0 vs.toList=vs.toList:=by
  unfold spl;rw[List.take_zero,List.nil_append,List.drop_of_length_le (by simp;omega),List.append_nil]
 rw[e]at this;simpa using this
theorem aL(ty:TypeId)(x y:Operand)(ho:o.op=.store ty x y)(g:Nat)(hg:IsC w g cs ty)(hx:a.eval x=.pointer (some ⟨g,0,none⟩))(hy:a.eval y=.agg vs)(hs:vs.size=cs.size)
  (hi:(Tryz.prog.info? ty).map (·.size)=some vs.size) (h1:vs.all (·.oneCell')=true) (h:∀w',IsC w' g vs ty→Frm (fun k=>k=g) w w'→K (a.put o.dst undef) w'):o.wp Tryz.prog a w K Q:=
 wp_store_mid ty x y ho g 0 vs hx hy (by rw[hs];exact hg.there) hi h1 (h _ (hg.lay hs) (Frm.sets (S:=fun k=>k=g) _ rfl _ _))
theorem lD(ty:TypeId)(x:Operand)(ho:o.op=.load ty x)(g:Nat)(hg:IsC w g cs ty)(hx:a.eval x=.pointer (some ⟨g,0,none⟩))(hr:(Tryz.prog.underlying ty).map (·.isRow)=some true)(hi:(Tryz.prog.info? ty).map (·.size)=some cs.size):
  (execOp a.eval o).run Tryz.prog w=.ok (.value (.agg cs)) w:=by
 obtain⟨d,hu,hd⟩:∃d,Tryz.prog.underlying ty=some d∧d.isRow=true:=by
  cases e:Tryz.prog.underlying ty with
  | none=>rw[e]at hr;cases hr
  | some d=>rw[e]at hr;exact⟨d,rfl,by simpa using hr⟩
 unfold execOp;simp only[ho,hx,Instr.loadAt,Instr.sureAddr,Sem.run_bind,Sem.run_pure,Result.andThen_ok,run_loadVar_mid w g 0 ty cs.toList d hg.range hu hd (by simpa using hi),Array.toArray_toList]
theorem aDY(c:Int)(w:World):Calls Tryz.prog 64 #[.int .i64 c] w fun e w'=>e=.returned (bN (c,0,.empty))∧Bl w w':=by
 have ik:=jP;go_enter Tryz.func64,Tryz.ntmps64;go_wp2;have hc:=IsC.new w #[.int .i64 c,.int .i64 0,.string {data:=#[]}] 92;have u0:(w.alloc (.cells #[.int .i64 c,.int .i64 0,.string {data:=#[]}] 92)).cell? ⟨w.heap.size,0,none⟩=some (.int .i64 c):=hc.c rfl;have u1:(w.alloc (.cells #[.int .i64 c,.int .i64 0,.string {data:=#[]}] 92)).cell? ⟨w.heap.size,1,none⟩=some (.int .i64 0):=hc.c rfl;have u2:(w.alloc (.cells #[.int .i64 c,.int .i64 0,.string {data:=#[]}] 92)).cell? ⟨w.heap.size,2,none⟩=some (.string {data:=#[]}):=hc.c rfl;refine bodyPost_ret (v:=bN (c,0,.empty)) (by simp[bN,results,Tryz.results64,Tryz.f64,go_sem,u0,u1,u2];try rfl) rfl ?_;exact⟨rfl,(bQ _ w).alloc (nR _) _⟩
def aAF(pos:String)(d1 d2:Nat)(c:Int):Array Oper:=
 #[{dst:=some d1,op:=.load 57 (.tmp 2),type:=57,pos:=pos,after:=#[],guard:=none},
  {dst:=some d2,op:=.call {callee:=.value (.func 64),args:=#[.const (.int .i64 c)],argTypes:=#[2]},type:=92,pos:=pos,after:=#[],guard:=none},
  {dst:=none,op:=.store 57 (.tmp 4) (.tmp d1),type:=0,pos:=pos,after:=#[{on:=0,ground:=.data},{on:=1,ground:=.chain},{on:=0,ground:=.phase},{on:=1,ground:=.textOnly .lateStoresUnsure}],guard:=none},
  {dst:=none,op:=.store 92 (.tmp 5) (.tmp d2),type:=0,pos:=pos,after:=#[{on:=1,ground:=.data},{on:=2,ground:=.chain},{on:=0,ground:=.phase},{on:=1,ground:=.phase},{on:=2,ground:=.phase}],guard:=none}]
theorem fX{ri:Nat}{pos:String}{d1 d2:Nat}{c:Int}{B2:Nat}(h2:IsC w B2 x 57)(hx:x.size=7)(ez:x.all (·.oneCell')=true)(h4:IsC w B4 y4 57)(Xj:y4.size=7)(h5:IsC w B5 y5 92)(Xk:y5.size=3)
  (n24:B2≠B4) (e2:a.eval (.tmp 2)=.pointer (some ⟨B2,0,none⟩)) (e4:∀v1 v2,((a.put (some d1) v1).put (some d2) v2).eval (.tmp 4)=.pointer (some ⟨B4,0,none⟩)) (e5:∀v1 v2,((a.put (some d1) v1).put (some d2) v2).eval (.tmp 5)=.pointer (some ⟨B5,0,none⟩))
  (f1:∀v1 v2,((a.put (some d1) v1).put (some d2) v2).eval (.tmp d1)=v1) (f2:∀v1 v2,((a.put (some d1) v1).put (some d2) v2).eval (.tmp d2)=v2)
  (CU:Region.free .any (aAF pos d1 d2 c) (Array.replicate (aAF pos d1 d2 c).size false) 0=true)
  (hQ:∀c a' w v,Q (.panic c) (a'.put (some d1) v) w→Q (.panic c) a' w)
  (h:∀w',IsC w' B4 x 57→IsC w' B5 #[.int .i64 c,.int .i64 0,.string .empty] 92→Frm (fun k=>k=B4∨k=B5) w w'→Q .normal ((a.put (some d1) (.agg x)).put (some d2) (bN (c,0,.empty))) w'):
  (Code.region ri (aAF pos d1 d2 c) true).wp Tryz.prog Q a w:=by
 refine aZ (fun W=>IsC W B2 x 57) 3 (by kernel_rfl) ?_;have Ah:IsC w.drew B2 x 57:=h2.drew;refine vX (i:=0) d1 (.agg x) (by kernel_rfl) rfl (by kernel_rfl) CU (by kernel_rfl) (fun c a' w hh=>hQ c a' w _ hh) rfl rfl Ah (fun w' hw=>lD _ _ rfl B2 hw e2 (by kernel_rfl) (by rw[hx];kernel_rfl)) ?_;refine oE 1 rfl fun K2 ae=>?_;show Oper.wp Tryz.prog {dst:=some d2,op:=.call {callee:=.value (.func 64),args:=#[.const (.int .i64 c)],argTypes:=#[2]},type:=92,pos:=pos,after:=#[],guard:=none} _ _ _ _
 go_simp
 refine(aDY c w.drew).mono ?_;rintro e w1 ⟨rfl,ao⟩;have iN:Frm (fun _=>False) w w1:=(Frm.drew _ w).trans (Frm.of_below ao);refine ae _ _ (fun _=>h2.frm iN id) ?_;clear ae K2;refine oE 2 rfl fun K2 ae=>?_;refine aL _ _ _ rfl B4 (h4.frm iN id) (e4 _ _) (f1 _ _) (hx.trans Xj.symm) (by rw[hx];kernel_rfl) ez fun w2 k4 kF=>?_;have du:Frm (fun k=>k=B4) w w2:=(iN.wide fun _ _ q=>q.elim).trans kF;have n45:B5≠B4:=h5.type_ne h4 (by decide);refine ae _ _ (fun _=>h2.frm du n24) ?_;clear ae K2;refine oE 3 rfl fun K2 ae=>?_;refine aL (vs:=#[.int .i64 c,.int .i64 0,.string .empty]) _ _ _ rfl B5 (h5.frm du n45) (e5 _ _) (f2 _ _) Xk.symm (by kernel_rfl) (by simp[Value.oneCell']) fun w3 k5 kF5=>?_;refine ae _ _ (fun q=>absurd rfl q) ?_;clear ae K2;refine aS (by kernel_rfl) ?_ _;exact h w3 (k4.frm kF5 (Ne.symm n45)) k5 ((du.wide fun _ _ q=>.inl q).trans (kF5.wide fun _ _ q=>.inr q))
theorem cM(x:Operand)(ho:o.op=.load 57 x)(g:Nat)(hg:IsC w g cs 57)(hx:a.eval x=.pointer (some ⟨g,0,none⟩))(hi:cs.size=7)(h:K (a.put o.dst (.agg cs)) w):o.wp Tryz.prog a w K Q:=by
 unfold Oper.wp;rw[lD _ x ho g hg hx (by kernel_rfl) (by rw[hi];kernel_rfl)];exact h
theorem cZ(A:SA)(f:fZ):(aK A f).size=7:=rfl
theorem dQ(h:SpV w A f)(ht:∃a n c,A.tv=.slice a n c):(aK A f).all (·.oneCell')=true:=by
 obtain⟨ma,mc,sf⟩:=h.com.len;obtain⟨a,n,c,e⟩:=ht;unfold aK;rw[sf,e];simp[Value.oneCell']
theorem Inv.cts(h:Inv f):CtS f:=⟨h.ic,h.r16,fun b d hd=>by have:=h.ent hd;omega,h.cmr⟩
structure OpP(w:World)(r:fZ×An)(e:Ending)(w':World):Prop where
 ex:∃A',e=.returned (.tuple #[.agg (aK A' r.1),bN r.2])∧SpV w' A' r.1∧∃a n c,A'.tv=.slice a n c
 bel:Bl w w'
theorem jZ{ty:TypeId}(hg:IsC w g cs ty)(hr:(Tryz.prog.underlying ty).map (·.isRow)=some true)(hi:(Tryz.prog.info? ty).map (·.size)=some cs.size):(loadVar ty ⟨g,0,none⟩).run Tryz.prog w=.ok (.agg cs) w:=by
 obtain⟨d,hu,hd⟩:∃d,Tryz.prog.underlying ty=some d∧d.isRow=true:=by
  cases e:Tryz.prog.underlying ty with
  | none=>rw[e]at hr;cases hr
  | some d=>rw[e]at hr;exact⟨d,rfl,by simpa using hr⟩
 have:=run_loadVar_mid (P:=Tryz.prog) w g 0 ty cs.toList d hg.range hu hd (by simpa using hi)
 simpa using this
theorem bD{a:Array Value}{y:Array Value}(h4:IsC w B4 x 57)(h5:IsC w B5 y 92)(hx:x.size=7)(hy:y.size=3)(e4:a.getD 4 undef=.pointer (some ⟨B4,0,none⟩))(e5:a.getD 5 undef=.pointer (some ⟨B5,0,none⟩)):
  (results Tryz.f52 a).run Tryz.prog w=.ok (.tuple #[.agg x,.agg y]) w:=by
 have l4:=jZ h4 (by kernel_rfl) (by rw[hx];kernel_rfl);have l5:=jZ h5 (by kernel_rfl) (by rw[hy];kernel_rfl);simp only[Array.getD_eq_getD_getElem?]at e4 e5;simp[results,Tryz.f52,e4,e5,asAddr,l4,l5]
theorem OpP.bad(hS:SpV w A f)(jf:∃a n c,A.tv=.slice a n c)(hb:Bl w w')(c:Int):OpP w (f,c,0,.empty) (.returned (.tuple #[.agg (aK A f),.agg #[.int .i64 c,.int .i64 0,.string .empty]])) w':=
 ⟨⟨A,rfl,hS.below hb,jf⟩,hb⟩
theorem aEA(kind tree:Int)(key val:ByteArray)(q0:inB kind 1 6=false)(w:World)(A:SA)(hS:SpV w A f)(jf:∃a n c,A.tv=.slice a n c):
  Calls Tryz.prog 52 #[.agg (aK A f),.agg #[.int .i64 kind,.int .i64 tree,.string key,.string val]] w (OpP w (opM f kind tree key val)):=by
 have bd:=cZ A f;have ez:=dQ hS jf;have ix:=aA fun(w':World) (hb:Bl w w') (c:Int)=>OpP.bad hS jf hb c;obtain⟨XS,vd⟩:=eZ (aK A f);rw[vd]at bd ez ix;rw[vd];have Ka:=aA vd;clear vd;obtain⟨r,Hr⟩:∃r,Hid (opM f kind tree key val=r):=⟨_,rfl⟩;rw[Hr.out];obtain⟨w1,be⟩:=eZ (w.alloc (.cells XS 57));obtain⟨w2,bw⟩:=eZ (w1.alloc (.cells #[.int .i64 kind,.int .i64 tree,.string key,.string val] 63));obtain⟨w3,dh⟩:=eZ (w2.alloc (.cells #[.int .i64 0,.slice none 0 0,.slice none 0 0,.int .i64 0,.int .i64 0,.slice none 0 0,.slice none 0 0] 57));obtain⟨w4,cn⟩:=eZ (w3.alloc (.cells #[.int .i64 0,.int .i64 0,.string {data:=#[]}] 92));obtain⟨B2,cx⟩:=eZ (w.heap.size);obtain⟨B3,fj⟩:=eZ (w1.heap.size);obtain⟨B4,dm⟩:=eZ (w2.heap.size);obtain⟨B5,qy⟩:=eZ (w3.heap.size);have nf:∀(u:World) (o:Obj) (v:World),u.alloc o=v→Bl u v∧v.heap.size=u.heap.size+1:=fun u o v e=>by rw[←e];exact⟨(bQ _ u).alloc (nR _) _,by simp⟩
 have nh:∀(u:World) (cs:Array Value) (ty:TypeId) (v:World),u.alloc (.cells cs ty)=v→IsC v u.heap.size cs ty:=fun u cs ty v e=>by rw[←e];exact IsC.new _ _ _
 obtain⟨b1,s1⟩:=nf _ _ _ be;obtain⟨b2,s2⟩:=nf _ _ _ bw;obtain⟨b3,s3⟩:=nf _ _ _ dh;obtain⟨b4,s4⟩:=nf _ _ _ cn;have n2:=nh _ _ _ _ be;have n3:=nh _ _ _ _ bw;have n4:=nh _ _ _ _ dh;have n5:=nh _ _ _ _ cn;rw[cx]at n2;rw[fj]at n3;rw[dm]at n4;rw[qy]at n5;have c34:Bl w3 w4:=b4;have c24:Bl w2 w4:=b3.trans (c34.mono (by omega));have c14:Bl w1 w4:=b2.trans (c24.mono (by omega));have c04:Bl w w4:=b1.trans (c14.mono (by omega));have i2:IsC w4 B2 XS 57:=n2.of (c14.block _ n2.lt);have i3:=n3.of (c24.block _ n3.lt);have i4:=n4.of (c34.block _ n4.lt);have m24:B2≠B4:=by omega
 have k0:w4.cell? ⟨B3,0,none⟩=some (.int .i64 kind):=i3.c rfl;have HD:=aA (aI s1 (aI s2 (aI s3 (aI s4 (aI cx (aI fj (aI dm qy)))))));have zo:Hid (w.heap.size≤B4∧w.heap.size≤B5):=(show _∧_ from by omega);have sx:Hid (∀(wz w':World),Bl w wz→Frm (fun k=>k=B4∨k=B5) wz w'→Bl w w'):=fun wz w' hb hF=>hb.trans (hF.below hb.size fun k e=>by have:=zo.out;rcases e with e | e<;>omega);have zt:inB kind 1 6=false→aY f kind tree key val=(0,5):=fun q=>by unfold aY;rw[if_pos q]
 clear nf nh b1 b2 b3 b4 n2 n3 n4 c34 c24 c14 s1 s2 s3 s4;go_enter Tryz.func52,Tryz.ntmps52;have HA:Hid (r=(f,5,0,.empty)):=by
  show r=_
  rw[←Hr.out];unfold opM;rw[zt q0];rfl
 rw[HA.out];by_cases q1:kind<1
 ·clear zt
  go_wp2
  refine fX (d1:=23) (d2:=24) (c:=5) i2 bd ez i4 rfl n5 rfl m24 rfl (fun _ _=>rfl) (fun _ _=>rfl) (fun _ _=>rfl) (fun _ _=>rfl) (by kernel_rfl) (fun _ _ _ _ h=>h) (fun w' j4 j5 jF=>?_);clear i2 i3 i4 n5 k0;simp only[Act.put,sB,sZ,sS];go_wp2;refine bodyPost_ret (v:=.tuple #[.agg XS,.agg #[.int .i64 5,.int .i64 0,.string .empty]]) (bD j4 j5 bd rfl rfl rfl) rfl ?_;exact ix.out w' (sx.out _ _ c04 jF) 5
 ·have q2:6<kind:=by unfold inB at q0;simp at q0;omega
  clear zt;go_wp2;refine fX (d1:=23) (d2:=24) (c:=5) i2 bd ez i4 rfl n5 rfl m24 rfl (fun _ _=>rfl) (fun _ _=>rfl) (fun _ _=>rfl) (fun _ _=>rfl) (by kernel_rfl) (fun _ _ _ _ h=>h) (fun w' j4 j5 jF=>?_);clear i2 i3 i4 n5 k0;simp only[Act.put,sB,sZ,sS];go_wp2;refine bodyPost_ret (v:=.tuple #[.agg XS,.agg #[.int .i64 5,.int .i64 0,.string .empty]]) (bD j4 j5 bd rfl rfl rfl) rfl ?_;exact ix.out w' (sx.out _ _ c04 jF) 5
theorem SpV.frmB(h:SpV w A f)(h4:IsC w B4 y4 57)(h5:IsC w B5 y5 92)(hF:Frm (fun k=>k=B4∨k=B5) w w'):SpV w' A f:=
 ⟨h.nds.frm hF (fun g cs k e=>e.elim (k.type_ne h4 (by decide)) (k.type_ne h5 (by decide))) (fun e=>e.elim (h.nds.arr.type_ne h4 (by decide)) (h.nds.arr.type_ne h5 (by decide))),h.ln,h.rts.frm hF (fun e=>e.elim (h.rts.type_ne h4 (by decide)) (h.rts.type_ne h5 (by decide))),h.rs,h.com.frm hF (fun g cs k e=>e.elim (k.type_ne h4 (by decide)) (k.type_ne h5 (by decide)))⟩
theorem OpP.good{w9:World}{A2:SA}{g:fZ}{B6:Nat}(hS:Sp w9 B6 A2 g)(jf:∃a n c,A2.tv=.slice a n c)(h4:IsC w9 B4 y4 57)(h5:IsC w9 B5 y5 92)(hF:Frm (fun k=>k=B4∨k=B5) w9 w')(hb:Bl w w')(a:An):OpP w (g,a) (.returned (.tuple #[.agg (aK A2 g),bN a])) w':=
 ⟨⟨A2,rfl,hS.v.frmB h4 h5 hF,jf⟩,hb⟩
theorem buildA01(W:World)(c v:Int):(Instr.build 92 #[(0,.int .i64 c),(1,.int .i64 v)]).run Tryz.prog W=.ok (.agg #[.int .i64 c,.int .i64 v,.string .empty]) W:=by kernel_rfl
theorem vF(hI:Inv f)(kind tree:Int)(key val:ByteArray)(h5:kind≠5)(Sk:kind=1∨kind=2→(aY f kind tree key val).2≠0)(w:World)(A:SA)(hS:SpV w A f)(jf:∃a n c,A.tv=.slice a n c):
  Calls Tryz.prog 52 #[.agg (aK A f),.agg #[.int .i64 kind,.int .i64 tree,.string key,.string val]] w (OpP w (opM f kind tree key val)):=by
 by_cases q0:inB kind 1 6=false
 ·exact aEA kind tree key val q0 w A hS jf
 have UL:=aA Sk;clear Sk;have bd:=cZ A f;have ez:=dQ hS jf;have ix:=aA fun(w':World) (hb:Bl w w') (c:Int)=>OpP.bad hS jf hb c;obtain⟨XS,vd⟩:=eZ (aK A f);rw[vd]at bd ez ix;rw[vd];have Ka:=aA vd;clear vd;obtain⟨r,Hr⟩:∃r,Hid (opM f kind tree key val=r):=⟨_,rfl⟩;rw[Hr.out];obtain⟨w1,be⟩:=eZ (w.alloc (.cells XS 57));obtain⟨w2,bw⟩:=eZ (w1.alloc (.cells #[.int .i64 kind,.int .i64 tree,.string key,.string val] 63));obtain⟨w3,dh⟩:=eZ (w2.alloc (.cells #[.int .i64 0,.slice none 0 0,.slice none 0 0,.int .i64 0,.int .i64 0,.slice none 0 0,.slice none 0 0] 57));obtain⟨w4,cn⟩:=eZ (w3.alloc (.cells #[.int .i64 0,.int .i64 0,.string {data:=#[]}] 92));obtain⟨B2,cx⟩:=eZ (w.heap.size);obtain⟨B3,fj⟩:=eZ (w1.heap.size);obtain⟨B4,dm⟩:=eZ (w2.heap.size);obtain⟨B5,qy⟩:=eZ (w3.heap.size);have nf:∀(u:World) (o:Obj) (v:World),u.alloc o=v→Bl u v∧v.heap.size=u.heap.size+1:=fun u o v e=>by rw[←e];exact⟨(bQ _ u).alloc (nR _) _,by simp⟩
 have nh:∀(u:World) (cs:Array Value) (ty:TypeId) (v:World),u.alloc (.cells cs ty)=v→IsC v u.heap.size cs ty:=fun u cs ty v e=>by rw[←e];exact IsC.new _ _ _
 obtain⟨b1,s1⟩:=nf _ _ _ be;obtain⟨b2,s2⟩:=nf _ _ _ bw;obtain⟨b3,s3⟩:=nf _ _ _ dh;obtain⟨b4,s4⟩:=nf _ _ _ cn;have n2:=nh _ _ _ _ be;have n3:=nh _ _ _ _ bw;have n4:=nh _ _ _ _ dh;have n5:=nh _ _ _ _ cn;rw[cx]at n2;rw[fj]at n3;rw[dm]at n4;rw[qy]at n5;have c34:Bl w3 w4:=b4;have c24:Bl w2 w4:=b3.trans (c34.mono (by omega));have c14:Bl w1 w4:=b2.trans (c24.mono (by omega));have c04:Bl w w4:=b1.trans (c14.mono (by omega));have i2:IsC w4 B2 XS 57:=n2.of (c14.block _ n2.lt);have i3:=n3.of (c24.block _ n3.lt);have i4:=n4.of (c34.block _ n4.lt);have m24:B2≠B4:=by omega
 have k0:w4.cell? ⟨B3,0,none⟩=some (.int .i64 kind):=i3.c rfl;have HD:=aA (aI s1 (aI s2 (aI s3 (aI s4 (aI cx (aI fj (aI dm qy)))))));have zo:Hid (w.heap.size≤B4∧w.heap.size≤B5):=(show _∧_ from by omega);have sx:Hid (∀(wz w':World),Bl w wz→Frm (fun k=>k=B4∨k=B5) wz w'→Bl w w'):=fun wz w' hb hF=>hb.trans (hF.below hb.size fun k e=>by have:=zo.out;rcases e with e | e<;>omega);have zt:inB kind 1 6=false→aY f kind tree key val=(0,5):=fun q=>by unfold aY;rw[if_pos q]
 clear nf nh b1 b2 b3 b4 n2 n3 n4 c34 c24 c14 s1 s2 s3 s4;go_enter Tryz.func52,Tryz.ntmps52;have q2:1≤kind∧kind≤6:=by unfold inB at q0;simpa using q0
 obtain⟨q2,q3⟩:=q2;have q4:¬kind<1:=by omega
 have q5:¬6<kind:=by omega
 have DV:=aA q0;have ol:=mL w4 A (hS.below c04) (by have:=hI.ic.n8;omega) hI.ic.n512 hI.ne (by have:=hI.r16;omega) jf;unfold stV at ol;rw[Ka.out]at ol;have DF:=aA ol;clear zt q0 ol;go_upto_region 3 with fail
 refine wp_region_list ?_;refine wpList_plain rfl (fun K2 ae=>?_);refine cM _ rfl B2 i2 rfl bd ?_;refine ae _ _ ?_;clear ae K2;simp only[Act.put,sB,sZ,sS];refine wpList_plain rfl (fun K2 ae=>?_);go_simp;refine DF.out.mono ?_;rintro e w5 ⟨A1,rfl,br,Eh,wg,bm,et⟩;refine ae _ _ ?_;clear ae K2 DF;have sv:∃a n c,A1.tv=.slice a n c:=by rw[Eh];exact jf
 have my:=dQ br sv;have fl:=cZ A1 f;obtain⟨X1,db⟩:=eZ (aK A1 f);rw[db]at my fl;rw[db];obtain⟨w6,rx⟩:=eZ (w5.alloc (.cells #[.int .i64 0,.slice none 0 0,.slice none 0 0,.int .i64 0,.int .i64 0,.slice none 0 0,.slice none 0 0] 57));obtain⟨B6,sb⟩:=eZ (w5.heap.size);have i6:=iNw rx sb;have kj:=bAl rx;refine wpList_plain rfl (fun K2 ae=>?_);go_simp;refine ae _ _ ?_;clear ae K2;refine wpList_plain rfl (fun K2 ae=>?_);refine aL _ _ _ rfl B6 i6 rfl rfl fl (by rw[fl];kernel_rfl) my fun w7 j6 jF=>?_;have ud:Bl w5 w7:=kj.trans (jF.below kj.size fun k e=>by omega);have ki:=et.trans (ud.mono et.size);have jx:=c04.trans (ki.mono c04.size);have i2':=i2.of (ki.block _ i2.lt);have i3':=i3.of (ki.block _ i3.lt);have i4':=i4.of (ki.block _ i4.lt);have n5':=n5.of (ki.block _ n5.lt);have jo:Sp w7 B6 A1 f:=⟨by rw[db];exact j6,br.below ud⟩;have LR:Hid (w.heap.size≤B6∧B2<B6∧B4<B6):=(show _∧_∧_ from by have:=c04.size;have:=et.size;have:=i2.lt;have:=i4.lt;omega);have k0':w7.cell? ⟨B3,0,none⟩=some (.int .i64 kind):=i3'.c rfl;have k1':w7.cell? ⟨B3,1,none⟩=some (.int .i64 tree):=i3'.c rfl;have k2':w7.cell? ⟨B3,2,none⟩=some (.string key):=i3'.c rfl;have k3':w7.cell? ⟨B3,3,none⟩=some (.string val):=i3'.c rfl;refine ae _ _ ?_;clear ae K2 i2 i3 i4 n5 k0 i6 rx be bw dh cn kj jF ud ki cx fj dm qy sb HD;refine wpList_nil ?_;simp only[Act.put,sB,sZ,sS];have qi:=iV w7 B6 A1 jo (by have:=hI.r16;omega) tree;go_wp2_with fail;refine qi.mono ?_;rintro e w8 ⟨rfl,rfl⟩;clear qi;cases jw:atT f tree with
 | none=>
  have HA:Hid (r=(f,8,0,.empty)):=by
   show r=_
   rw[←Hr.out];have ha:aY f kind tree key val=(0,8):=by unfold aY;rw[if_neg DV.out,if_neg h5,jw]
   unfold opM;rw[ha];rfl
  have hp:plZ f tree=-1:=by unfold plZ;rw[jw]
  rw[hp];clear jw hp;go_wp2;refine fX (d1:=32) (d2:=33) (c:=8) i2' bd ez i4' rfl n5' rfl m24 rfl (fun _ _=>rfl) (fun _ _=>rfl) (fun _ _=>rfl) (fun _ _=>rfl) (by kernel_rfl) (fun _ _ _ _ h=>h) (fun w' j4 j5 jF=>?_);clear i2' i3' i4' n5' k0' k1' k2' k3';simp only[Act.put,sB,sZ,sS];go_wp2;refine bodyPost_ret (v:=.tuple #[.agg XS,.agg #[.int .i64 8,.int .i64 0,.string .empty]]) (bD j4 j5 bd rfl rfl rfl) rfl ?_;rw[HA.out];exact ix.out w' (sx.out _ _ jx jF) 8
 | some t=>
  have fw:=(mC jw).1;have hp:plZ f tree=(t:Int):=by unfold plZ;rw[jw]
  have DR:¬((t:Int)<0):=by omega
  have yr:aY f kind tree key val=if((kind=1∨kind=2∨kind=6)∧12<key.size)∨(kind=1∧10<val.size)then((0,4):Nat×Int)else(t,0):=by unfold aY;rw[if_neg DV.out,if_neg h5,jw]
  rw[hp];clear jw hp DV;by_cases ld:((kind=1∨kind=2∨kind=6)∧12<key.size)∨(kind=1∧10<val.size)
  ·have HA:Hid (r=(f,4,0,.empty)):=by
    show r=_
    rw[←Hr.out];unfold opM;rw[yr,if_pos ld];rfl
   clear yr Hr;by_cases mx:12<key.size
   ·have Kq:(12:Int) <(key.size:Int):=by omega
    have pd:kind=1∨kind=2∨kind=6:=by rcases ld with⟨e,_⟩ | ⟨e,_⟩<;>simp[e]
    clear ld;rcases pd with rfl | rfl | rfl
    ·go_wp2
     refine fX (d1:=65) (d2:=66) (c:=4) i2' bd ez i4' rfl n5' rfl m24 rfl (fun _ _=>rfl) (fun _ _=>rfl) (fun _ _=>rfl) (fun _ _=>rfl) (by kernel_rfl) (fun _ _ _ _ h=>h) (fun w' j4 j5 jF=>?_);clear i2' i3' i4' n5' k0' k1' k2' k3';simp only[Act.put,sB,sZ,sS];go_wp2;refine bodyPost_ret (v:=.tuple #[.agg XS,.agg #[.int .i64 4,.int .i64 0,.string .empty]]) (bD j4 j5 bd rfl rfl rfl) rfl ?_;rw[HA.out];exact ix.out w' (sx.out _ _ jx jF) 4
    ·go_wp2
     refine fX (d1:=65) (d2:=66) (c:=4) i2' bd ez i4' rfl n5' rfl m24 rfl (fun _ _=>rfl) (fun _ _=>rfl) (fun _ _=>rfl) (fun _ _=>rfl) (by kernel_rfl) (fun _ _ _ _ h=>h) (fun w' j4 j5 jF=>?_);clear i2' i3' i4' n5' k0' k1' k2' k3';simp only[Act.put,sB,sZ,sS];go_wp2;refine bodyPost_ret (v:=.tuple #[.agg XS,.agg #[.int .i64 4,.int .i64 0,.string .empty]]) (bD j4 j5 bd rfl rfl rfl) rfl ?_;rw[HA.out];exact ix.out w' (sx.out _ _ jx jF) 4
    ·go_wp2
     refine fX (d1:=65) (d2:=66) (c:=4) i2' bd ez i4' rfl n5' rfl m24 rfl (fun _ _=>rfl) (fun _ _=>rfl) (fun _ _=>rfl) (fun _ _=>rfl) (by kernel_rfl) (fun _ _ _ _ h=>h) (fun w' j4 j5 jF=>?_);clear i2' i3' i4' n5' k0' k1' k2' k3';simp only[Act.put,sB,sZ,sS];go_wp2;refine bodyPost_ret (v:=.tuple #[.agg XS,.agg #[.int .i64 4,.int .i64 0,.string .empty]]) (bD j4 j5 bd rfl rfl rfl) rfl ?_;rw[HA.out];exact ix.out w' (sx.out _ _ jx jF) 4
   ·have Kq:¬(12:Int) <(key.size:Int):=by omega
    have hv:kind=1∧10<val.size:=by rcases ld with⟨_,e⟩ | e;exact absurd e mx;exact e
    obtain⟨rfl,hv⟩:=hv;have XV:(10:Int) <(val.size:Int):=by omega
    clear ld;go_wp2;refine fX (d1:=65) (d2:=66) (c:=4) i2' bd ez i4' rfl n5' rfl m24 rfl (fun _ _=>rfl) (fun _ _=>rfl) (fun _ _=>rfl) (fun _ _=>rfl) (by kernel_rfl) (fun _ _ _ _ h=>h) (fun w' j4 j5 jF=>?_);clear i2' i3' i4' n5' k0' k1' k2' k3';simp only[Act.put,sB,sZ,sS];go_wp2;refine bodyPost_ret (v:=.tuple #[.agg XS,.agg #[.int .i64 4,.int .i64 0,.string .empty]]) (bD j4 j5 bd rfl rfl rfl) rfl ?_;rw[HA.out];exact ix.out w' (sx.out _ _ jx jF) 4
  ·have BE:aY f kind tree key val=(t,0):=by rw[yr,if_neg ld]
   have n54:B5≠B4:=n5'.type_ne i4' (by decide);have Gm:=buildA01;have Vu:=qP;obtain⟨hW,er,_⟩:=hI.hOf fw;have pt:Hid (∀w9,Frm (fun k=>k=B6∨k=A1.ga∨k=A1.gr) w8 w9→Bl w w9∧IsC w9 B4 #[.int .i64 0,.slice none 0 0,.slice none 0 0,.int .i64 0,.int .i64 0,.slice none 0 0,.slice none 0 0] 57∧IsC w9 B5 #[.int .i64 0,.int .i64 0,.string {data:=#[]}] 92∧IsC w9 B2 XS 57∧IsC w9 B3 #[.int .i64 kind,.int .i64 tree,.string key,.string val] 63):=fun w9 hF=>by
    have h6:=LR.out;have Mb:=lT c04.size wg;have ET:=lT c04.size bm;refine⟨jx.trans (hF.below jx.size fun k e=>by rcases e with e | e | e<;>omega),i4'.frm hF ?_,n5'.frm hF ?_,i2'.frm hF ?_,i3'.frm hF ?_⟩
    ·rintro(e | e | e)
     ·omega
     ·exact i4'.type_ne jo.v.nds.arr (by decide) e
     ·exact i4'.type_ne jo.v.rts (by decide) e
    ·rintro(e | e | e)
     ·exact n5'.type_ne jo.box (by decide) e
     ·exact n5'.type_ne jo.v.nds.arr (by decide) e
     ·exact n5'.type_ne jo.v.rts (by decide) e
    ·rintro(e | e | e)
     ·omega
     ·exact i2'.type_ne jo.v.nds.arr (by decide) e
     ·exact i2'.type_ne jo.v.rts (by decide) e
    ·rintro(e | e | e)
     ·exact i3'.type_ne jo.box (by decide) e
     ·exact i3'.type_ne jo.v.nds.arr (by decide) e
     ·exact i3'.type_ne jo.v.rts (by decide) e
   by_cases e3:kind=3
   ·subst e3
    have qx:Hid (r=lU f t):=by
     show r=_
     rw[←Hr.out];unfold opM;rw[BE];rfl
    clear yr BE ld Hr wg bm;by_cases hq:16≤f.roots.length∨65535≤f.next
    ·have kv:=aAY (t:=t) hq w8 B6 A1 jo
     have mf:Hid (r=(f,4,0,.empty)):=by
      show r=_
      rw[qx.out];unfold lU;rw[if_pos hq]
     clear hq;go_wp2_with fail;refine kv.mono ?_;rintro e w9 ⟨rfl,rfl⟩;clear kv;go_upto_region 12 with fail
     refine wp_region_list ?_;refine wpList_plain rfl (fun K2 ae=>?_);refine cM _ rfl B6 j6 rfl fl ?_;refine ae _ _ ?_;clear ae K2;simp only[Act.put,sB,sZ,sS];refine wpList_plain rfl (fun K2 ae=>?_);go_simp;refine ae _ _ ?_;clear ae K2;refine wpList_plain rfl (fun K2 ae=>?_);go_simp;refine ae _ _ ?_;clear ae K2;refine wpList_plain rfl (fun K2 ae=>?_);go_simp;refine ae _ _ ?_;clear ae K2;refine wpList_plain rfl (fun K2 ae=>?_);refine aL _ _ _ rfl B4 i4' rfl rfl fl (by rw[fl];kernel_rfl) my fun wa ja jaF=>?_;refine ae _ _ ?_;clear ae K2;simp only[Act.put,sB,sZ,sS];refine wpList_plain rfl (fun K2 ae=>?_);refine aL (vs:=#[.int .i64 4,.int .i64 0,.string .empty]) _ _ _ rfl B5 (n5'.frm jaF n54) rfl rfl rfl (by kernel_rfl) (by simp[Value.oneCell']) fun wb jb jbF=>?_;refine ae _ _ ?_;clear ae K2;refine wpList_nil ?_;simp only[Act.put,sB,sZ,sS];have jF:Frm (fun k=>k=B4∨k=B5) w9 wb:=(jaF.wide fun _ _ q=>.inl q).trans (jbF.wide fun _ _ q=>.inr q);have ja':=ja.frm jbF (Ne.symm n54);have oo:=aA (show OpP w r (.returned (.tuple #[.agg X1,.agg #[.int .i64 4,.int .i64 0,.string ByteArray.empty]])) wb by rw[mf.out,←db];exact OpP.good jo sv i4' n5' jF (sx.out _ _ jx jF) (4,0,ByteArray.empty));clear ja jaF jbF jF;go_wp2;refine bodyPost_ret (v:=.tuple #[.agg X1,.agg #[.int .i64 4,.int .i64 0,.string .empty]]) (bD ja' jb fl rfl rfl rfl) rfl ?_;exact oo.out
    ·have fq:=yV hI.ic fw (by omega) ⟨by have:=hI.nx;omega,by omega⟩ w8 B6 A1 jo
     have mf:Hid (r=(cU f t,0,f.next,.empty)):=by
      show r=_
      rw[qx.out];unfold lU;rw[if_neg hq]
     clear hq;go_wp2_with fail;refine fq.mono ?_;rintro e w9 ⟨rfl,⟨⟨A2,q8,Aa⟩,vz⟩⟩;obtain⟨o6,i49,n59,_⟩:=pt.out w9 vz;have sw:∃a n c,A2.tv=.slice a n c:=by rw[Aa];exact sv
     have lp:=dQ q8.v sw;have ej:=cZ A2 (cU f t);have j62:=q8.box;obtain⟨X2,fx⟩:=eZ (aK A2 (cU f t));rw[fx]at lp ej j62;clear fq vz;go_upto_region 12 with fail
     refine wp_region_list ?_;refine wpList_plain rfl (fun K2 ae=>?_);refine cM _ rfl B6 j62 rfl ej ?_;refine ae _ _ ?_;clear ae K2;simp only[Act.put,sB,sZ,sS];refine wpList_plain rfl (fun K2 ae=>?_);go_simp;refine ae _ _ ?_;clear ae K2;refine wpList_plain rfl (fun K2 ae=>?_);go_simp;refine ae _ _ ?_;clear ae K2;refine wpList_plain rfl (fun K2 ae=>?_);go_simp;refine ae _ _ ?_;clear ae K2;refine wpList_plain rfl (fun K2 ae=>?_);refine aL _ _ _ rfl B4 i49 rfl rfl ej (by rw[ej];kernel_rfl) lp fun wa ja jaF=>?_;refine ae _ _ ?_;clear ae K2;simp only[Act.put,sB,sZ,sS];refine wpList_plain rfl (fun K2 ae=>?_);refine aL (vs:=#[.int .i64 0,.int .i64 f.next,.string .empty]) _ _ _ rfl B5 (n59.frm jaF n54) rfl rfl rfl (by kernel_rfl) (by simp[Value.oneCell']) fun wb jb jbF=>?_;refine ae _ _ ?_;clear ae K2;refine wpList_nil ?_;simp only[Act.put,sB,sZ,sS];have jF:Frm (fun k=>k=B4∨k=B5) w9 wb:=(jaF.wide fun _ _ q=>.inl q).trans (jbF.wide fun _ _ q=>.inr q);have ja':=ja.frm jbF (Ne.symm n54);have oo:=aA (show OpP w r (.returned (.tuple #[.agg X2,.agg #[.int .i64 0,.int .i64 f.next,.string ByteArray.empty]])) wb by rw[mf.out,←fx];exact OpP.good q8 sw i49 n59 jF (sx.out _ _ o6 jF) (0,f.next,ByteArray.empty));clear ja jaF jbF jF;go_wp2;refine bodyPost_ret (v:=.tuple #[.agg X2,.agg #[.int .i64 0,.int .i64 f.next,.string .empty]]) (bD ja' jb ej rfl rfl rfl) rfl ?_;exact oo.out
   by_cases e4:kind=4
   ·subst e4
    have qx:Hid (r=nC f t):=by
     show r=_
     rw[←Hr.out];unfold opM;rw[BE];rfl
    clear yr BE ld Hr wg bm;by_cases hq:f.roots.length=1
    ·have kv:=aDZ (t:=t) hq w8 B6 A1 jo
     have mf:Hid (r=(f,18,0,.empty)):=by
      show r=_
      rw[qx.out];unfold nC;rw[if_pos hq]
     clear hq;go_wp2_with fail;refine kv.mono ?_;rintro e w9 ⟨rfl,rfl⟩;clear kv;go_upto_region 15 with fail
     refine wp_region_list ?_;refine wpList_plain rfl (fun K2 ae=>?_);refine cM _ rfl B6 j6 rfl fl ?_;refine ae _ _ ?_;clear ae K2;simp only[Act.put,sB,sZ,sS];refine wpList_plain rfl (fun K2 ae=>?_);go_simp;refine ae _ _ ?_;clear ae K2;refine wpList_plain rfl (fun K2 ae=>?_);go_simp;refine ae _ _ ?_;clear ae K2;refine wpList_plain rfl (fun K2 ae=>?_);go_simp;refine ae _ _ ?_;clear ae K2;refine wpList_plain rfl (fun K2 ae=>?_);refine aL _ _ _ rfl B4 i4' rfl rfl fl (by rw[fl];kernel_rfl) my fun wa ja jaF=>?_;refine ae _ _ ?_;clear ae K2;simp only[Act.put,sB,sZ,sS];refine wpList_plain rfl (fun K2 ae=>?_);refine aL (vs:=#[.int .i64 18,.int .i64 0,.string .empty]) _ _ _ rfl B5 (n5'.frm jaF n54) rfl rfl rfl (by kernel_rfl) (by simp[Value.oneCell']) fun wb jb jbF=>?_;refine ae _ _ ?_;clear ae K2;refine wpList_nil ?_;simp only[Act.put,sB,sZ,sS];have jF:Frm (fun k=>k=B4∨k=B5) w9 wb:=(jaF.wide fun _ _ q=>.inl q).trans (jbF.wide fun _ _ q=>.inr q);have ja':=ja.frm jbF (Ne.symm n54);have oo:=aA (show OpP w r (.returned (.tuple #[.agg X1,.agg #[.int .i64 18,.int .i64 0,.string ByteArray.empty]])) wb by rw[mf.out,←db];exact OpP.good jo sv i4' n5' jF (sx.out _ _ jx jF) (18,0,ByteArray.empty));clear ja jaF jbF jF;go_wp2;refine bodyPost_ret (v:=.tuple #[.agg X1,.agg #[.int .i64 18,.int .i64 0,.string .empty]]) (bD ja' jb fl rfl rfl rfl) rfl ?_;exact oo.out
    ·obtain⟨g9,_,mj,Aq,Je,E5,Ti,Tj,_,Tk⟩:=wM hI fw (by have:=hI.ne;omega) hW.ok
     have mf:Hid (r=((drop f t (hOf f t)).1,0,(drop f t (hOf f t)).2,.empty)):=by
      show r=_
      rw[qx.out];unfold nC;rw[if_neg hq]
     have fq:=aAZ (Inv.cts hI) (Inv.cts g9) fw (by have:=hI.ne;omega) Je (fun b d hd=>by rcases Tk b with e | e;rw[←e];exact hd;rw[e]at hd;cases hd) Aq E5 Ti Tj w8 B6 A1 jo;rw[←mj]at fq;obtain⟨dn,Te⟩:=eZ ((drop f t (hOf f t)).2);obtain⟨dg,CT⟩:=eZ ((drop f t (hOf f t)).1);rw[Te,CT]at fq mf;clear hq g9 mj Aq Je E5 Ti Tj Tk Te CT;go_wp2_with fail;refine fq.mono ?_;rintro e w9 ⟨rfl,⟨⟨A2,q8,Aa⟩,vz⟩⟩;obtain⟨o6,i49,n59,_⟩:=pt.out w9 vz;have sw:∃a n c,A2.tv=.slice a n c:=by rw[Aa];exact sv
     have lp:=dQ q8.v sw;have ej:=cZ A2 dg;have j62:=q8.box;obtain⟨X2,fx⟩:=eZ (aK A2 dg);rw[fx]at lp ej j62;clear fq vz;go_upto_region 15 with fail
     refine wp_region_list ?_;refine wpList_plain rfl (fun K2 ae=>?_);refine cM _ rfl B6 j62 rfl ej ?_;refine ae _ _ ?_;clear ae K2;simp only[Act.put,sB,sZ,sS];refine wpList_plain rfl (fun K2 ae=>?_);go_simp;refine ae _ _ ?_;clear ae K2;refine wpList_plain rfl (fun K2 ae=>?_);go_simp;refine ae _ _ ?_;clear ae K2;refine wpList_plain rfl (fun K2 ae=>?_);go_simp;refine ae _ _ ?_;clear ae K2;refine wpList_plain rfl (fun K2 ae=>?_);refine aL _ _ _ rfl B4 i49 rfl rfl ej (by rw[ej];kernel_rfl) lp fun wa ja jaF=>?_;refine ae _ _ ?_;clear ae K2;simp only[Act.put,sB,sZ,sS];refine wpList_plain rfl (fun K2 ae=>?_);refine aL (vs:=#[.int .i64 0,.int .i64 dn,.string .empty]) _ _ _ rfl B5 (n59.frm jaF n54) rfl rfl rfl (by kernel_rfl) (by simp[Value.oneCell']) fun wb jb jbF=>?_;refine ae _ _ ?_;clear ae K2;refine wpList_nil ?_;simp only[Act.put,sB,sZ,sS];have jF:Frm (fun k=>k=B4∨k=B5) w9 wb:=(jaF.wide fun _ _ q=>.inl q).trans (jbF.wide fun _ _ q=>.inr q);have ja':=ja.frm jbF (Ne.symm n54);have oo:=aA (show OpP w r (.returned (.tuple #[.agg X2,.agg #[.int .i64 0,.int .i64 dn,.string ByteArray.empty]])) wb by rw[mf.out,←fx];exact OpP.good q8 sw i49 n59 jF (sx.out _ _ o6 jF) (0,dn,ByteArray.empty));clear ja jaF jbF jF;go_wp2;refine bodyPost_ret (v:=.tuple #[.agg X2,.agg #[.int .i64 0,.int .i64 dn,.string .empty]]) (bD ja' jb ej rfl rfl rfl) rfl ?_;exact oo.out
   have bx:=oV hI.ic fw hW.ok key w8 B6 A1 jo;have Kq:¬(12:Int) <(key.size:Int):=fun q=>ld (.inl ⟨by omega,by omega⟩);by_cases e6:kind=6
   ·subst e6
    have qx:Hid (r=nH f t key):=by
     show r=_
     rw[←Hr.out];unfold opM;rw[BE];rfl
    clear yr BE ld Hr wg bm pt;cases ll:Fo.find f.nodes (hOf f t) (aB f t) key with
    | none=>
     have mf:Hid (r=(f,9,0,.empty)):=by show r=_;rw[qx.out];unfold nH;rw[ll]
     rw[ll]at bx;simp only[uD]at bx;clear ll;go_wp2_with fail;refine bx.mono ?_;rintro e w9 ⟨rfl,fu⟩;clear bx;have i29:=i2'.of (fu.block _ i2'.lt);have i39:=i3'.of (fu.block _ i3'.lt);have i49:=i4'.of (fu.block _ i4'.lt);have n59:=n5'.of (fu.block _ n5'.lt);have o6:=jx.trans (fu.mono jx.size);have eX:=jo.below fu;have j69:=eX.box;rw[db]at j69;have k09:w9.cell? ⟨B3,0,none⟩=some (.int .i64 6):=i39.c rfl;have k29:w9.cell? ⟨B3,2,none⟩=some (.string key):=i39.c rfl;have k39:w9.cell? ⟨B3,3,none⟩=some (.string val):=i39.c rfl;clear fu k0' k1' k2' k3' i2' i3' i4' n5';go_wp2;refine fX (d1:=121) (d2:=122) (c:=9) i29 bd ez i49 rfl n59 rfl m24 rfl (fun _ _=>rfl) (fun _ _=>rfl) (fun _ _=>rfl) (fun _ _=>rfl) (by kernel_rfl) (fun _ _ _ _ h=>h) (fun w' j4 j5 jF=>?_);simp only[Act.put,sB,sZ,sS];have DT:=aA (ix.out w' (sx.out _ _ o6 jF) 9);clear jF;go_wp2;refine bodyPost_ret (v:=.tuple #[.agg XS,.agg #[.int .i64 9,.int .i64 0,.string .empty]]) (bD j4 j5 bd rfl rfl rfl) rfl ?_;rw[mf.out];exact DT.out
    | some v=>
     have mf:Hid (r=(f,0,0,v)):=by show r=_;rw[qx.out];unfold nH;rw[ll]
     rw[ll]at bx;simp only[uD]at bx;clear ll;go_wp2_with fail;refine bx.mono ?_;rintro e w9 ⟨rfl,fu⟩;clear bx;have i29:=i2'.of (fu.block _ i2'.lt);have i39:=i3'.of (fu.block _ i3'.lt);have i49:=i4'.of (fu.block _ i4'.lt);have n59:=n5'.of (fu.block _ n5'.lt);have o6:=jx.trans (fu.mono jx.size);have eX:=jo.below fu;have j69:=eX.box;rw[db]at j69;have k09:w9.cell? ⟨B3,0,none⟩=some (.int .i64 6):=i39.c rfl;have k29:w9.cell? ⟨B3,2,none⟩=some (.string key):=i39.c rfl;have k39:w9.cell? ⟨B3,3,none⟩=some (.string val):=i39.c rfl;clear fu k0' k1' k2' k3' i2' i3' i4' n5';go_upto_region 28 with fail
     refine wp_region_list ?_;refine wpList_plain rfl (fun K2 ae=>?_);refine cM _ rfl B6 j69 rfl fl ?_;refine ae _ _ ?_;clear ae K2;simp only[Act.put,sB,sZ,sS];refine wpList_plain rfl (fun K2 ae=>?_);go_simp;refine ae _ _ ?_;clear ae K2;refine wpList_plain rfl (fun K2 ae=>?_);go_simp;refine ae _ _ ?_;clear ae K2;refine wpList_plain rfl (fun K2 ae=>?_);refine aL _ _ _ rfl B4 i49 rfl rfl fl (by rw[fl];kernel_rfl) my fun wa ja jaF=>?_;refine ae _ _ ?_;clear ae K2;simp only[Act.put,sB,sZ,sS];refine wpList_plain rfl (fun K2 ae=>?_);refine aL (vs:=#[.int .i64 0,.int .i64 0,.string v]) _ _ _ rfl B5 (n59.frm jaF n54) rfl rfl rfl (by kernel_rfl) (by simp[Value.oneCell']) fun wb jb jbF=>?_;refine ae _ _ ?_;clear ae K2;refine wpList_nil ?_;simp only[Act.put,sB,sZ,sS];have jF:Frm (fun k=>k=B4∨k=B5) w9 wb:=(jaF.wide fun _ _ q=>.inl q).trans (jbF.wide fun _ _ q=>.inr q);have ja':=ja.frm jbF (Ne.symm n54);have oo:=aA (show OpP w r (.returned (.tuple #[.agg X1,.agg #[.int .i64 0,.int .i64 0,.string v]])) wb by rw[mf.out,←db];exact OpP.good eX sv i49 n59 jF (sx.out _ _ o6 jF) (0,0,v));clear ja jaF jbF jF;go_wp2;refine bodyPost_ret (v:=.tuple #[.agg X1,.agg #[.int .i64 0,.int .i64 0,.string v]]) (bD ja' jb fl rfl rfl rfl) rfl ?_;exact oo.out
   ·exact absurd (by rw[BE]) (UL.out (by omega))
