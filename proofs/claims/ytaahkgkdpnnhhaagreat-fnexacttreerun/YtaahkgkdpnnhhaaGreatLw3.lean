import Derived.Test.YtaahkgkdpnnhhaaGreatRt1
set_option maxHeartbeats 9999999
set_option maxRecDepth 99999
set_option linter.all false
namespace Go.Proofs.YtaahkgkdpnnhhaaGreat
open Go.RowKit Fo
theorem tS(x0:Int)(x1:Int)(x2:ByteArray)(w:World):Calls Tryz.prog 48 #[.agg #[.int .i64 x0,.int .i64 x1,.string x2],.agg #[.int .i64 x0,.int .i64 x1,.string x2]] w fun e w'=>e=.returned (.bool true)∧Bl w w':=by
 have hq0:(x0 != x0)=false:=by simp
 have hq1:(x1 != x1)=false:=by simp
 obtain⟨b1,hb1⟩:=eZ (w.heap.size);obtain⟨w1,hw1⟩:=eZ (w.alloc (.cells #[.int .i64 x0,.int .i64 x1,.string x2] 92));obtain⟨b2,hb2⟩:=eZ (w1.heap.size);obtain⟨w2,hw2⟩:=eZ (w1.alloc (.cells #[.int .i64 x0,.int .i64 x1,.string x2] 92));have B1:=bAl hw1;have B2:=bAl hw2;have i1:=iNw hw1 hb1;have i2:=iNw hw2 hb2;have i1':=i1.of (B2.block _ i1.lt);have HB:=aA (B1.trans (B2.mono B1.size));have e0:w2.cell? ⟨b1,0,none⟩=some (.int .i64 x0):=i1'.c rfl;have f0:w2.cell? ⟨b2,0,none⟩=some (.int .i64 x0):=i2.c rfl;have e1:w2.cell? ⟨b1,1,none⟩=some (.int .i64 x1):=i1'.c rfl;have f1:w2.cell? ⟨b2,1,none⟩=some (.int .i64 x1):=i2.c rfl;have e2:w2.cell? ⟨b1,2,none⟩=some (.string x2):=i1'.c rfl;have f2:w2.cell? ⟨b2,2,none⟩=some (.string x2):=i2.c rfl;clear i1 i2 i1' B1 B2;go_enter Tryz.func48,Tryz.ntmps48;go_wp2;refine bodyPost_ret (v:=.bool true) (by simp[results,Tryz.results48,go_sem]) rfl ?_;exact⟨rfl,HB.out⟩
theorem aIF{w:World}{u:Value}{l:List An}(h:yA.Sl w u l)(hl:0<l.length):∃g o c,u=.slice (some ⟨g,o,none⟩) l.length c∧g<w.heap.size∧∀(w':World) (i:Nat),(w'.heap[g]?=w.heap[g]?)→i<l.length→w'.cell? ⟨g,o+i*3,none⟩=some (.int .i64 (l.getD i yA.z).1)∧w'.cell? ⟨g,o+i*3+1,none⟩=some (.int .i64 (l.getD i yA.z).2.1)∧w'.cell? ⟨g,o+i*3+2,none⟩=some (.string (l.getD i yA.z).2.2):=by
 obtain⟨g,o,c,e,hg,hc⟩:=h.at hl;refine⟨g,o,c,e,hg,fun w' i he hi=>?_⟩;have hw:∀k,w'.cell? ⟨g,k,none⟩=w.cell? ⟨g,k,none⟩:=fun k=>by simp[World.cell?,he]
 refine⟨?_,?_,?_⟩
 ·rw[hw];exact hc i 0 hi (by decide)
 ·rw[hw];exact hc i 1 hi (by decide)
 ·rw[hw];exact hc i 2 hi (by decide)
theorem iG(v v':Value)(l:List An)(w:World)(hv:yA.Sl w v l)(hv':yA.Sl w v' l)(hn:l.length≤4294967296):Calls Tryz.prog 28 #[v,v'] w fun e w'=>e=.returned (.bool true)∧Bl w w':=by
 obtain⟨va,vc,hve⟩:=hv.len;obtain⟨ua,uc,hue⟩:=hv'.len;have HV:=aA (aI hv hv');subst hve;subst hue;clear hv hv';have heq:((l.length:Int) !=(l.length:Int))=false:=by simp
 go_enter Tryz.func28,Tryz.ntmps28
 go_wp2
 go_loopw [5] (fun i wr=>∃k:Nat,k≤l.length∧i=.int .i64 k∧Bl w wr) (fun i _=>l.length -(intOf i).toNat)
 case atStart=>exact⟨0,by omega,rfl,bQ _ _⟩
 case round=>
  obtain⟨k,hk,rfl,hb⟩:=hrel;by_cases hlt:k<l.length
  ·obtain⟨g,o,cc,hve,hgw,hcell⟩:=aIF HV.out.1 (by omega)
   simp only[Value.slice.injEq,true_and]at hve;obtain⟨rfl,rfl⟩:=hve;obtain⟨g',o',cc',hve',hgw',hcell'⟩:=aIF HV.out.2 (by omega);simp only[Value.slice.injEq,true_and]at hve';obtain⟨rfl,rfl⟩:=hve';have hki:(k:Int) <(l.length:Int):=by omega
   have ha:=hcell wr k (hb.block g hgw) hlt;have hc:=hcell' wr k (hb.block g' hgw') hlt;have HA:Hid (∀wq,Bl wr wq→wq.cell? ⟨g,o+k*3,none⟩=some (.int .i64 (l.getD k yA.z).1)∧wq.cell? ⟨g,o+k*3+1,none⟩=some (.int .i64 (l.getD k yA.z).2.1)∧wq.cell? ⟨g,o+k*3+2,none⟩=some (.string (l.getD k yA.z).2.2)∧wq.cell? ⟨g',o'+k*3,none⟩=some (.int .i64 (l.getD k yA.z).1)∧wq.cell? ⟨g',o'+k*3+1,none⟩=some (.int .i64 (l.getD k yA.z).2.1)∧wq.cell? ⟨g',o'+k*3+2,none⟩=some (.string (l.getD k yA.z).2.2)):=fun wq hq=>by
    have hbq:=hb.trans (hq.mono hb.size);have h1:=hcell wq k (hbq.block g hgw) hlt;have h2:=hcell' wq k (hbq.block g' hgw') hlt;exact⟨h1.1,h1.2.1,h1.2.2,h2.1,h2.2.1,h2.2.2⟩
   generalize l.getD k yA.z=op at *;obtain⟨x0,x1,x2⟩:=op;simp only at ha hc HA;obtain⟨p0,p1,p2⟩:=ha;obtain⟨q0,q1,q2⟩:=hc;clear hcell hcell';go_wp2;go_region_held3 (fun W=>W.cell? ⟨g,o+k*3,none⟩=some (.int .i64 x0)∧W.cell? ⟨g,o+k*3+1,none⟩=some (.int .i64 x1)∧W.cell? ⟨g,o+k*3+2,none⟩=some (.string x2)∧W.cell? ⟨g',o'+k*3,none⟩=some (.int .i64 x0)∧W.cell? ⟨g',o'+k*3+1,none⟩=some (.int .i64 x1)∧W.cell? ⟨g',o'+k*3+2,none⟩=some (.string x2)) (first | assumption | go_keep | exact⟨p0,p1,p2,q0,q1,q2⟩ | exact HA.out _ (bQ _ _).drew | exact HA.out _ hB) ((go_at_call 48;refine(tS x0 x1 x2 _).mono ?_;rintro e w2 ⟨rfl,hB0⟩;have hB:Bl wr w2:=(bQ wr.heap.size wr).drew.trans hB0));go_wp2;go_roundw
   case rel=>exact⟨k+1,by omega,by go_num,hb.trans (hB.mono hb.size)⟩
   case measure=>simp[intOf];omega
  ·have hki:¬(k:Int) <(l.length:Int):=by omega
   go_wp2
   refine bodyPost_ret (v:=.bool true) (by simp[results,Tryz.results28,go_sem]) rfl ?_;exact⟨rfl,hb⟩
def lR(k:Int)(j:Nat):An:=((k+3*(j:Int)),(k+3*(j:Int)+1),(mkT (k+3*(j:Int)+1+1).toNat))
def cR(k:Int)(m:Nat):List An:=(List.range m).map fun j=>lR k j
def cQ(k:Int)(l:List An)(j:Nat):List An:=cR k j++l.drop j
theorem iJ(k:Int)(m:Nat):(cR k m).length=m:=by simp[cR]
theorem sW(k:Int)(l:List An)(j:Nat)(h:j≤l.length):(cQ k l j).length=l.length:=by simp[cQ,iJ];omega
theorem qD(k:Int)(l:List An):cQ k l 0=l:=by simp[cQ,cR]
theorem tC(k:Int)(l:List An):cQ k l l.length=cR k l.length:=by simp[cQ]
theorem tR(k:Int)(m j:Nat)(z:An)(h:j<m):(cR k m).getD j z=lR k j:=by simp[cR,h]
theorem qE(k:Int)(l:List An)(j:Nat)(h:j<l.length):(cQ k l j).set j (lR k j)=cQ k l (j+1):=by
 unfold cQ;have hl:=iJ k j;rw[List.set_append_right _ _ (by omega),hl,Nat.sub_self,List.drop_eq_getElem_cons h,List.set_cons_zero];have:cR k (j+1)=cR k j++[lR k j]:=by unfold cR;rw[List.range_succ,List.map_append];rfl
 rw[this,List.append_assoc];rfl
theorem pC(lo hi:Nat)(v:Value)(l:List An)(k:Int)(w:World)(hv:fN yA lo hi w v l)(hk:1≤k)(hn:k+3*(l.length:Int)≤900000000):Calls Tryz.prog 29 #[v,.int .i64 k] w fun e w'=>e=.returned (.int .i64 (k+3*(l.length:Int)))∧fN yA lo hi w' v (cR k l.length)∧Upd lo hi w w':=by
 obtain⟨va,vc,hve⟩:=hv.len;subst hve;have HV:=aA hv;clear hv;go_enter Tryz.func29,Tryz.ntmps29;go_wp2;go_loopw [1,5] (fun q i wr=>∃j:Nat,j≤l.length∧i=.int .i64 j∧q=.int .i64 (k+3*(j:Int))∧fN yA lo hi wr (.slice va l.length vc) (cQ k l j)∧Frm (fun b=>lo≤b∧b<hi) w wr) (fun _ i _=>l.length -(intOf i).toNat)
 case atStart=>exact⟨0,by omega,rfl,by simp,by rw[qD];exact HV.out,Frm.refl _ _⟩
 case round=>
  obtain⟨j,hj,rfl,rfl,hO,hF⟩:=hrel;have hdl:=sW k l j hj;by_cases hlt:j<l.length
  ·have HST:=aA (qE k l j hlt)
   rcases hO with⟨e,e2⟩ | ⟨g,cap,pre,post,e,hg1,hg2,I0⟩
   ·rw[e2]at hdl;simp at hdl;omega
   rw[hdl]at e;simp only[Value.slice.injEq,true_and]at e;obtain⟨rfl,rfl⟩:=e;generalize cQ k l j=M at *;have hjM:j<M.length:=by omega
   have hji:(j:Int) <(l.length:Int):=by omega
   have hb9:k+3*(j:Int)+3≤900000000:=by omega
   obtain⟨⟨y0,y1,y2⟩,hel⟩:∃x,M.getD j yA.z=x:=⟨_,rfl⟩;have HEL:=aA hel;obtain⟨o,ho⟩:=eZ (pre.length*yA.n);have HO:=aA ho;rw[ho];have HMI:Hid (∀(W:World) (N:List An),IsC W g (yA.row (pre++N++post)) 92→N.length=M.length→W.cell? ⟨g,o+j*3,none⟩=some (.int .i64 (N.getD j yA.z).1)∧W.cell? ⟨g,o+j*3+1,none⟩=some (.int .i64 (N.getD j yA.z).2.1)∧W.cell? ⟨g,o+j*3+2,none⟩=some (.string (N.getD j yA.z).2.2)):=fun W N hI hN=>by
    rw[←ho];refine⟨?_,?_,?_⟩
    ·exact yA.mid hI (j:=j) (f:=0) (by omega) (by decide)
    ·exact yA.mid hI (j:=j) (f:=1) (by omega) (by decide)
    ·exact yA.mid hI (j:=j) (f:=2) (by omega) (by decide)
   have HS1:Hid (∀(W:World) (N:List An) (f:Nat) (vv:Value) (a':An),IsC W g (yA.row (pre++N++post)) 92→N.length=M.length→f<3→yA.cell a'=(yA.cell (N.getD j yA.z)).set f vv→IsC (W.setCell ⟨g,o+j*3+f,none⟩ vv) g (yA.row (pre++N.set j a'++post)) 92):=fun W N f vv a' hI hN hf hc=>by
    have:=hI.set (o+j*3+f) vv
    have e:o+j*3+f=(pre.length+j)*yA.n+f:=by rw[←ho,Nat.add_mul];rfl
    rw[e]at this ⊢;rw[yA.set1 (pre++N++post) (i:=pre.length+j) (by simp;omega) hf vv a' (by rw[wK pre N post j (by omega)];exact hc),aDI pre N post j (by omega)]at this;exact this
   clear ho;have G0:M.getD j yA.z=(y0,y1,y2):=hel;have FR0:=hF;clear hel hF;have c0:wr.cell? ⟨g,o+j*3,none⟩=some (.int .i64 y0):=by have:=(HMI.out wr _ I0 (by simp)).1;rw[G0]at this;exact this
   have z0:=I0.frozen (o+j*3);have I1:=HS1.out wr _ 0 (.int .i64 (k+3*(j:Int))) ((k+3*(j:Int)),y1,y2) I0 (by simp) (by omega) (by rw[G0];rfl);simp only[Nat.add_zero]at I1;have FR1:=FR0.trans (Frm.set (S:=fun b=>lo≤b∧b<hi) wr (p:=⟨g,o+j*3,none⟩) ⟨hg1,hg2⟩ (.int .i64 (k+3*(j:Int))));obtain⟨W1,hW1⟩:=eZ (wr.setCell ⟨g,o+j*3,none⟩ (.int .i64 (k+3*(j:Int))));rw[hW1]at I1 FR1;have G1:(M.set j ((k+3*(j:Int)),y1,y2)).getD j yA.z=((k+3*(j:Int)),y1,y2):=by simp[hjM]
   have c1:W1.cell? ⟨g,o+j*3+1,none⟩=some (.int .i64 y1):=by have:=(HMI.out W1 _ I1 (by simp)).2.1;rw[G1]at this;exact this
   have z1:=I1.frozen (o+j*3+1);have I2:=HS1.out W1 _ 1 (.int .i64 (k+3*(j:Int)+1)) ((k+3*(j:Int)),(k+3*(j:Int)+1),y2) I1 (by simp) (by omega) (by rw[G1];rfl);have FR2:=FR1.trans (Frm.set (S:=fun b=>lo≤b∧b<hi) W1 (p:=⟨g,o+j*3+1,none⟩) ⟨hg1,hg2⟩ (.int .i64 (k+3*(j:Int)+1)));obtain⟨W2,hW2⟩:=eZ (W1.setCell ⟨g,o+j*3+1,none⟩ (.int .i64 (k+3*(j:Int)+1)));rw[hW2]at I2 FR2;rw[List.set_set]at I2;have G2:(M.set j ((k+3*(j:Int)),(k+3*(j:Int)+1),y2)).getD j yA.z=((k+3*(j:Int)),(k+3*(j:Int)+1),y2):=by simp[hjM]
   have c2:W2.cell? ⟨g,o+j*3+2,none⟩=some (.string y2):=by have:=(HMI.out W2 _ I2 (by simp)).2.2;rw[G2]at this;exact this
   have z2:=I2.frozen (o+j*3+2);go_wp2_with fail;refine(gY (k+3*(j:Int)+1+1) W2 (by omega) (by omega)).mono ?_;rintro e V2 ⟨rfl,hb2⟩;have J2:=I2.of (hb2.block _ I2.lt);have FV2:=FR2.trans (Frm.of_below hb2);clear c2 z2;have c2:V2.cell? ⟨g,o+j*3+2,none⟩=some (.string y2):=by have:=(HMI.out V2 _ J2 (by simp)).2.2;rw[G2]at this;exact this
   have z2:=J2.frozen (o+j*3+2);have I3:=HS1.out V2 _ 2 (.string (mkT (k+3*(j:Int)+1+1).toNat)) ((k+3*(j:Int)),(k+3*(j:Int)+1),(mkT (k+3*(j:Int)+1+1).toNat)) J2 (by simp) (by omega) (by rw[G2];rfl);have FR3:=FV2.trans (Frm.set (S:=fun b=>lo≤b∧b<hi) V2 (p:=⟨g,o+j*3+2,none⟩) ⟨hg1,hg2⟩ (.string (mkT (k+3*(j:Int)+1+1).toNat)));obtain⟨W3,hW3⟩:=eZ (V2.setCell ⟨g,o+j*3+2,none⟩ (.string (mkT (k+3*(j:Int)+1+1).toNat)));rw[hW3]at I3 FR3;rw[List.set_set]at I3;have G3:(M.set j ((k+3*(j:Int)),(k+3*(j:Int)+1),(mkT (k+3*(j:Int)+1+1).toNat))).getD j yA.z=((k+3*(j:Int)),(k+3*(j:Int)+1),(mkT (k+3*(j:Int)+1+1).toNat)):=by simp[hjM]
   have HN:Hid (fN yA lo hi W3 (.slice (some ⟨g,o,none⟩) l.length vc) (cQ k l (j+1))):=by
    rw[←HST.out];refine .inr ⟨g,vc,pre,post,?_,hg1,hg2,I3⟩;rw[List.length_set,hdl];show Value.slice (some ⟨g,o,none⟩) _ _=Value.slice (some ⟨g,pre.length*yA.n,none⟩) _ _
    rw[HO.out]
   clear HMI HS1 HEL G0 G1 G2 G3 I0 I1 I2 I3;go_wp2;go_roundw
   case rel=>exact⟨j+1,by omega,by go_num,by go_num,HN.out,FR3⟩
   case measure=>simp[intOf];omega
  ·obtain rfl:j=l.length:=by omega
   rw[tC]at hO;have HN:=aA hO;have hji:¬((l.length:Nat):Int) <((l.length:Nat):Int):=by omega
   clear hO;go_wp2;refine bodyPost_ret (v:=.int .i64 (k+3*(l.length:Int))) (by simp[results,Tryz.results29,go_sem]) rfl ?_;exact⟨rfl,HN.out,⟨hF.os,hF.tape,hF.output,hF.size,fun b hb hn=>hF.block b hb (by omega)⟩⟩
theorem oU(v:Value)(k:Int)(m:Nat)(w:World)(hv:yA.Sl w v (cR k m))(hk:1≤k)(hn:k+3*(m:Int)≤900000000):Calls Tryz.prog 30 #[v,.int .i64 k] w fun e w'=>e=.returned (.int .i64 (k+3*(m:Int)))∧Bl w w':=by
 obtain⟨va,vc,hve⟩:=hv.len;have hml:=iJ k m;rw[hml]at hve;have HV:=aA (aI hv hve);subst hve;clear hv;go_enter Tryz.func30,Tryz.ntmps30;go_wp2;go_loopw [1,5] (fun q i wr=>∃j:Nat,j≤m∧i=.int .i64 j∧q=.int .i64 (k+3*(j:Int))∧Bl w wr) (fun _ i _=>m -(intOf i).toNat)
 case atStart=>exact⟨0,by omega,rfl,by simp,bQ _ _⟩
 case round=>
  obtain⟨j,hj,rfl,rfl,hb⟩:=hrel;by_cases hlt:j<m
  ·obtain⟨g,o,cc,hve,hgw,hcell⟩:=aIF HV.out.1 (by omega)
   rw[hml]at hve;simp only[Value.slice.injEq,true_and]at hve;obtain⟨rfl,rfl⟩:=hve;have hji:(j:Int) <(m:Int):=by omega
   have hb9:k+3*(j:Int)+3≤900000000:=by omega
   have HA:Hid (∀wq,Bl w wq→wq.cell? ⟨g,o+j*3,none⟩=some (.int .i64 (k+3*(j:Int)))∧wq.cell? ⟨g,o+j*3+1,none⟩=some (.int .i64 (k+3*(j:Int)+1))∧wq.cell? ⟨g,o+j*3+2,none⟩=some (.string (mkT (k+3*(j:Int)+1+1).toNat))):=fun wq hq=>by
    have h1:=hcell wq j (hq.block g hgw) (by omega);rw[tR k m j yA.z hlt]at h1;exact h1
   clear hcell;have c0:=(HA.out wr hb).1;have q0:((k+3*(j:Int)) !=(k+3*(j:Int)))=false:=by simp
   have c1:=(HA.out wr hb).2.1;have q1:((k+3*(j:Int)+1) !=(k+3*(j:Int)+1))=false:=by simp
   have c2:=(HA.out wr hb).2.2;go_wp2;go_region_held3 (fun W=>W.cell? ⟨g,o+j*3+2,none⟩=some (.string (mkT (k+3*(j:Int)+1+1).toNat))) (first | assumption | go_keep | exact c2 | exact(HA.out _ hB2).2.2) ((go_at_call 38;refine(gY (k+3*(j:Int)+1+1) _ (by omega) (by omega)).mono ?_;rintro e V2 ⟨rfl,hV2⟩;have hB2:Bl w V2:=hb.trans ((bQ _ _).drew.trans (hV2.mono hb.size))));go_wp2;go_roundw
   case rel=>exact⟨j+1,by omega,by go_num,by go_num,hB2⟩
   case measure=>simp[intOf];omega
  ·obtain rfl:j=m:=by omega
   have hji:¬((j:Nat):Int) <((j:Nat):Int):=by omega
   go_wp2
   refine bodyPost_ret (v:=.int .i64 (k+3*(j:Int))) (by simp[results,Tryz.results30,go_sem]) rfl ?_;exact⟨rfl,hb⟩
theorem aIS(n:Int)(ops:List TO):(trA n ops).length≤2000:=by
 unfold trA;split
 ·rename_i h
  rw[jO];rcases lW n ops with⟨e1,_⟩ | ⟨e1,_⟩ | ⟨_,_,h2⟩
  ·omega
  ·omega
  ·exact h2
 ·simp
theorem wA(n:Int)(ops:List TO):(trA n ops).length≤2000:=aIS n ops
theorem qB(n:Int)(ops:List TO)(v:Value)(w:World)(hv:yO.Sl w v ops)(hl:ops.length≤1048576):Calls Tryz.prog 26 #[.int .i64 n,v] w fun e w'=>∃a c,e=.returned (.tuple #[.slice a (trA n ops).length c,.int .i64 (trC n ops)])∧fN yA w.heap.size w'.heap.size w' (.slice a (trA n ops).length c) (trA n ops)∧Bl w w':=
 (qJ n ops v w hv hl).mono fun e w' ⟨u,h1,h2,h3⟩=>by
  obtain⟨a,c,rfl⟩:=h2.sl.len;exact⟨a,c,h1,h2.yown,h3⟩
theorem kH(n:Int)(ops:List TO)(v:Value)(w:World)(hv:yO.Sl w v ops)(hl:ops.length≤1048576):Calls Tryz.prog 27 #[.int .i64 n,v] w fun e w'=>∃a c,e=.returned (.tuple #[.slice a (trA n ops).length c,.int .i64 (trC n ops)])∧fN yA w.heap.size w'.heap.size w' (.slice a (trA n ops).length c) (trA n ops)∧Bl w w':=
 (qL n ops v w hv hl).mono fun e w' ⟨u,h1,h2,h3⟩=>by
  obtain⟨a,c,rfl⟩:=h2.sl.len;exact⟨a,c,h1,h2.yown,h3⟩
theorem wI(x0:Int)(a1:Option Addr)(c1:Nat)(z1:List TO)(w:World)(hv1:RdL w (.slice a1 z1.length c1) z1)(hm1:z1.length≤9223372036854775807)(hz1:∀o∈z1,o.2.2.1.size≤9223372036854775807∧o.2.2.2.size≤9223372036854775807):
  Calls Tryz.prog 6 #[.int .i64 x0,.slice a1 z1.length c1] w fun e w'=>e=.returned (.bool true)∧Bl w w':=by
 have hr0:=wA x0 z1;have hne:(trC x0 z1 != trC x0 z1)=false:=by simp
 go_enter Tryz.func6,Tryz.ntmps6
 go_wp2_with fail
 refine(mB z1 _ w hv1 hm1 hz1).mono ?_;rintro e w1 ⟨⟨r,rfl,hrl⟩,hb1⟩;by_cases hneg:r<0
 case pos=>
  have HB:=aA hb1;clear hb1;go_wp2;refine bodyPost_ret (v:=.bool true) (by simp[results,Tryz.results6,go_sem]) rfl ?_;exact⟨rfl,HB.out⟩
 have hl1:z1.length≤1048576:=hrl (by omega);clear hrl;have hbel1:=hb1;have hs1:=hb1.size;clear hb1;go_wp2_with fail;refine(cZ _ z1 _ (hv1.below hbel1) (by omega)).mono ?_;rintro e w2 ⟨rfl,s_2,hb2⟩;have hbel2:=hbel1.trans (hb2.mono hbel1.size);have hs2:=hb2.size;clear hb2 hbel1;go_wp2_with fail;refine(qB x0 z1 _ _ s_2.sl (by omega)).mono ?_;rintro e w3 ⟨Wa0,Wc0,rfl,W0_3,hb3⟩;have s_3:=s_2.below hb3;have hbel3:=hbel2.trans (hb3.mono hbel2.size);have hs3:=hb3.size;clear s_2 hb3 hbel2;clear s_3;go_wp2_with fail;refine(cZ _ z1 _ (hv1.below hbel3) (by omega)).mono ?_;rintro e w4 ⟨rfl,X_4,hb4⟩;have W0_4:=W0_3.below hb4;have hbel4:=hbel3.trans (hb4.mono hbel3.size);have hs4:=hb4.size;clear W0_3 hb4 hbel3;go_wp2_with fail;refine(kH x0 z1 _ _ X_4.sl (by omega)).mono ?_;rintro e w5 ⟨Ga0,Gc0,rfl,G0_5,hb5⟩;have W0_5:=W0_4.below hb5;have X_5:=X_4.below hb5;have hbel5:=hbel4.trans (hb5.mono hbel4.size);have hs5:=hb5.size;clear W0_4 X_4 hb5 hbel4;go_wp2_with fail;refine(iG _ _ (trA x0 z1) _ G0_5.sl W0_5.sl (by omega)).mono ?_;rintro e w6 ⟨rfl,hb6⟩;have W0_6:=W0_5.below hb6;have X_6:=X_5.below hb6;have G0_6:=G0_5.below hb6;have hbel6:=hbel5.trans (hb6.mono hbel5.size);have hs6:=hb6.size;clear W0_5 X_5 G0_5 hb6 hbel5;go_wp2_with fail;refine(cZ _ z1 _ (hv1.below hbel6) (by omega)).mono ?_;rintro e w7 ⟨rfl,T_7,hb7⟩;have W0_7:=W0_6.below hb7;have X_7:=X_6.below hb7;have G0_7:=G0_6.below hb7;have hbel7:=hbel6.trans (hb7.mono hbel6.size);have hs7:=hb7.size;clear W0_6 X_6 G0_6 hb7 hbel6;go_wp2_with fail;refine(mI _ _ z1 _ X_7.sl T_7.sl (by omega)).mono ?_;rintro e w8 ⟨rfl,hb8⟩;have W0_8:=W0_7.below hb8;have X_8:=X_7.below hb8;have G0_8:=G0_7.below hb8;have T_8:=T_7.below hb8;have hbel8:=hbel7.trans (hb8.mono hbel7.size);have hs8:=hb8.size;clear W0_7 X_7 G0_7 T_7 hb8 hbel7;clear T_8;go_wp2_with fail;refine(kI _ _ _ z1 1 _ X_8 (by omega) (by omega)).mono ?_;rintro e w9 ⟨rfl,-,hu9⟩;have W0_9:=W0_8.upd hu9 (by omega);have G0_9:=G0_8.upd hu9 (by omega);have hbel9:=hbel8.trans (hu9.below (by omega) (by omega));have hs9:=hu9.size;clear W0_8 G0_8 hu9 hbel8;clear X_8;have hkp:¬(1+4*(z1.length:Int))<0:=by omega
 go_wp2_with fail
 refine(iG _ _ (trA x0 z1) _ G0_9.sl W0_9.sl (by omega)).mono ?_;rintro e w10 ⟨rfl,hb10⟩;have W0_10:=W0_9.below hb10;have G0_10:=G0_9.below hb10;have hbel10:=hbel9.trans (hb10.mono hbel9.size);have hs10:=hb10.size;clear W0_9 G0_9 hb10 hbel9;go_wp2_with fail;refine(pC _ _ _ (trA x0 z1) (1) _ G0_10 (by omega) (by omega)).mono ?_;rintro e w11 ⟨rfl,M0_11,hu11⟩;have W0_11:=W0_10.upd hu11 (by omega);have hbel11:=hbel10.trans (hu11.below (by omega) (by omega));have hs11:=hu11.size;clear W0_10 hu11 hbel10;clear G0_10;go_wp2_with fail;refine(oU _ (1) (trA x0 z1).length _ M0_11.sl (by omega) (by omega)).mono ?_;rintro e w12 ⟨rfl,hb12⟩;have W0_12:=W0_11.below hb12;have M0_12:=M0_11.below hb12;have hbel12:=hbel11.trans (hb12.mono hbel11.size);have hs12:=hb12.size;clear W0_11 M0_11 hb12 hbel11;clear M0_12;have hkq0:¬(1+3*((trA x0 z1).length:Int))<0:=by omega
 have hkr:((1+3*((trA x0 z1).length:Int)) !=(1+3*((trA x0 z1).length:Int)))=false:=by simp
 go_wp2_with fail
 refine(cZ _ z1 _ (hv1.below hbel12) (by omega)).mono ?_;rintro e w13 ⟨rfl,Y_13,hb13⟩;have W0_13:=W0_12.below hb13;have hbel13:=hbel12.trans (hb13.mono hbel12.size);have hs13:=hb13.size;clear W0_12 hb13 hbel12;go_wp2_with fail;refine(kH x0 z1 _ _ Y_13.sl (by omega)).mono ?_;rintro e w14 ⟨Ha0,Hc0,rfl,H0_14,hb14⟩;have W0_14:=W0_13.below hb14;have Y_14:=Y_13.below hb14;have hbel14:=hbel13.trans (hb14.mono hbel13.size);have hs14:=hb14.size;clear W0_13 Y_13 hb14 hbel13;go_wp2_with fail;refine(iG _ _ (trA x0 z1) _ H0_14.sl W0_14.sl (by omega)).mono ?_;rintro e w15 ⟨rfl,hb15⟩;have W0_15:=W0_14.below hb15;have Y_15:=Y_14.below hb15;have H0_15:=H0_14.below hb15;have hbel15:=hbel14.trans (hb15.mono hbel14.size);have hs15:=hb15.size;clear W0_14 Y_14 H0_14 hb15 hbel14;clear W0_15 Y_15 H0_15;go_wp2;refine bodyPost_ret (v:=.bool true) (by simp[results,Tryz.results6,go_sem]) rfl ?_;exact⟨rfl,hbel15⟩
end Go.Proofs.YtaahkgkdpnnhhaaGreat
namespace Go.Proofs.YtaahkgkdpnnhhaaGreat.fnExactTreeRun
open Go.ChangeShapes Go.WideShapes Go.ChangeAt Go.RowKit
theorem lifted(os:Os)(started:os.Started)(H:Type)(enc:TypeId×Value→H):
  ReturnsInHanded {} Tryz.checked os 6 .any (Rows.fnExactTreeRunSpec.pre6 enc Tryz.prog Tryz.f6 Rows.fnExactTreeRunRow.domain false) (Rows.fnExactTreeRunSpec.post enc Tryz.prog Tryz.f6 false true false false):=by
 refine returnsInHanded_of_change (C:=Tryz.checked) ownQ started (by kernel_rfl) Tryz.func6
  (ChangeSpec.witness6 (enc:=enc) (C:=Tryz.checked) false ⟨#[],#[.int .i64 0,.slice none 0 0],[]⟩ 8 (by kernel_rfl) (by kernel_rfl) (by kernel_rfl) (by kernel_rfl)) ?_
 intro W base args ds gs before hval0 hW hcnd _;have hval:∀(j:Nat) t v,Tryz.f6.params[j]?=some t→args[j]?=some v→Value.okWide Tryz.prog W .any base t v:=hval0;have hW':=hW;obtain⟨p,q,hA0,hV,rfl,hfz,hnd⟩:=hW;have hA:DataW.TrodAll enc Tryz.prog W 0 (fun _=>true) true Tryz.f6.params.toList args.toList ds p:=hA0;rw[Tryz.params6]at hA hval;obtain⟨v0,vs0,d0,ds0,p0,q0,hargs,rfl,rfl,h0,r0⟩:=trodAll_cons hA;obtain⟨v1,vs1,d1,ds1,p1,q1,rfl,rfl,rfl,h1,r1⟩:=trodAll_cons r0;obtain⟨rfl,rfl,rfl⟩:=trodAll_nil r1;obtain rfl:args=#[v0,v1]:=by cases args;simp_all
 obtain⟨rfl,rfl⟩:=trodVars_none hV;obtain⟨x0,rfl,rfl,rfl,w0⟩:=open_int Tryz.underlying2 (hval 0 2 v0 rfl rfl) h0;have k1:=h1;have lt1:∀x∈p1,x.block<W.heap.size:=by obtain⟨m,hm⟩:=k1;exact DataW.trod_lt m _ _ _ hm
 obtain⟨a1,c1,z1,rfl,hn1,hb1,hz1⟩:=aCR (hval 1 22 v1 rfl rfl) h1;clear hA0 hval0;refine(wI x0 a1 c1 z1 W hb1 hn1 hz1).mono fun e W' ⟨he,bel⟩=>?_;subst he;exact⟨_,rfl,_,_,_,[],_,[],hW',trodAll_mk1 (shut_bool Tryz.underlying4 _),(trodAll_cons_mk (shut_int Tryz.underlying2 w0) (trodAll_cons_mk (Below.trod laidOut (by kernel_rfl) (of_decide_eq_true (by kernel_rfl)) k1 bel lt1) trodAll_mk0)),rfl,bel.frame _,fun h=>by cases h⟩
theorem over:Rows.fnExactTreeRunRow.holds Tryz.pinned (OpenSpec.ofChange Rows.fnExactTreeRunSpec):=
 OpenClaim.holds_of_wide 6 Tryz.f6 rfl rfl rfl rfl rfl rfl rfl ⟨rfl,rfl,rfl,rfl,rfl⟩ rfl rfl rfl rfl rfl (by kernel_rfl) Tryz.func6 (by kernel_rfl)
  (of_decide_eq_true (by kernel_rfl)) (by unfold Func.isWrapper;first | (rw[if_pos (by decide +kernel)];kernel_rfl) | (rw[if_neg (by decide +kernel)];exact⟨rfl,rfl⟩))
  (fun os started H enc _=>lifted os started H enc)
theorem proved:Rows.FnExactTreeRunSaid:=over
