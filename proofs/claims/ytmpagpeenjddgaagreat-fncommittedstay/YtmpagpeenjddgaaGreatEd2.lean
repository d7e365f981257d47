import Derived.Laws.BytesString
import Derived.Lib.Strings
import Derived.Test.YtmpagpeenjddgaaGreatCs1
set_option maxHeartbeats 9999999
set_option maxRecDepth 99999
set_option linter.all false
namespace Go.Proofs.YtmpagpeenjddgaaGreat
open Go.RowKit
def txB(zs:List Int):ByteArray:=zs.foldl (fun r n=>r.push (UInt8.ofNat n.toNat)) .empty
theorem aGC(r:ByteArray)(x:UInt8):(r.push x).data.toList=r.data.toList++[x]:=by
 cases r;simp[ByteArray.push]
theorem aBU(zs:List Int):∀r:ByteArray,(zs.foldl (fun r n=>r.push (UInt8.ofNat n.toNat)) r).data.toList=r.data.toList++zs.map fun n=>UInt8.ofNat n.toNat:=by
 induction zs with
 | nil=>intro r;simp
 | cons z l ih=>intro r;rw[List.foldl_cons,ih,aGC];simp
theorem aKL(zs:List Int):(txB zs).data.toList=zs.map fun n=>UInt8.ofNat n.toNat:=by
 rw[txB,aBU];rfl
theorem yV{w:World}{a:Option Addr}{n cap:Nat}{zs:List Int}(h:Bts w (.slice a n cap) zs)(o:0<n):(convert 22 9 (.slice a n cap)).run Tryz.prog w=.ok (.string (txB zs)) w:=by
 obtain⟨_,_,f,k⟩:=h.shape;simp only[Value.slice.injEq]at f;obtain⟨rfl,rfl,rfl⟩:=f;obtain⟨b,off,rfl,g⟩:=k o;rw[run_convert_bytes_string _ 22 9 5 _ _ _ Tryz.underlying22 Tryz.underlying5 Tryz.underlying9];rw[run_bytesToString _ _ zs.length cap zs ?_]
 ·rfl
 ·have m:=run_loadCells_list (P:=Tryz.prog) w ⟨b,off,none⟩ (zs.map (Value.int .u8)) (fun j v c=>by
   have d:j<zs.length:=by
    by_cases l:j<zs.length
    ·exact l
    ·simp[show zs.length<=j by omega]at c
   have e:(({block:=b,off:=off,spot:=none}:Addr).add j)=⟨b,off+j,none⟩:=by
    unfold Addr.add;by_cases i:j=0<;>simp[i]
   rw[e,g j d];simp only[List.getElem?_map,gE d,Option.map_some,sJ]at c;simp[<-c,d])
  simpa using m
abbrev St2:=Nat×Int
def dtN(zs:List Int)(p:St2)(mx:Nat):Nat:=if 0<nxV zs (nxS zs p) 3/\3<nxV zs p (mx+1)then(nxV zs p (mx+1)).toNat % 4 else(nxV zs p (mx+1)).toNat
def dtL(zs:List Int)(p:St2):Nat->ByteArray×St2
 | 0=>(.empty,p)
 | k+1=>((dtL zs p k).1++txB [nxV zs (dtL zs p k).2 256],nxS zs (dtL zs p k).2)
def dtR(zs:List Int)(p:St2)(mx:Nat):ByteArray×St2:=dtL zs (nxS zs (nxS zs p)) (dtN zs p mx)
theorem lR(l:List Int):(txB l).size=l.length:=by
 rw[Lib.size_eq,aKL,List.length_map]
theorem zD(zs:List Int)(p:St2)(k:Nat):(dtL zs p k).1.size=k:=by
 induction k with
 | zero=>rfl
 | succ k ih=>rw[dtL,ByteArray.size_append,ih,lR];rfl
theorem aIF(zs:List Int)(p:St2)(a:Nat)(b:a<=12):dtN zs p a<=a:=by
 have h:=bO zs p (n:=(a:Int)+1) (by omega) (by omega);unfold dtN;split<;>omega
theorem aIG(zs:List Int)(p:St2)(a:Nat)(b:a<=12):(dtR zs p a).1.size<=a:=by
 rw[dtR,zD];exact aIF zs p a b
theorem aOY(w:World)(o:Obj):Bl w (w.alloc o):=(bQ _ _).alloc (nR _) _
theorem aHY(w:World)(v:Int)(d:0<=v/\v<256)(g:Nat)(b:g=w.heap.size):(convert 22 9 (.slice (some ⟨g,0,none⟩) 1 1)).run Tryz.prog (w.alloc (.cells #[.int .u8 v] 5))=.ok (.string (txB [v])) (w.alloc (.cells #[.int .u8 v] 5)):=by
 have a:Bts (w.alloc (.cells #[.int .u8 v] 5)) (.slice (some ⟨g,0,none⟩) 1 1) [v]:=by
  refine⟨fun i=>?_,some ⟨g,0,none⟩,1,rfl,fun _=>⟨g,0,rfl,fun i c=>?_⟩⟩
  ·match i with
   | 0=>simpa using d
   | i+1=>simp
  ·have:i=0:=by simpa using c
   subst this;rw[World.cell?_alloc_at _ _ _ _ (by simp[b])];rfl
 exact yV a (by omega)
theorem xD(base g:Nat)(a:Option Addr)(c:Nat)(zs:List Int)(p:St2)(b:Nat)(V:b<=12)(w:World)(I:dP base g a c zs p w):
  Calls Tryz.prog 64 #[.pointer (some ⟨g,0,none⟩),.int .i64 b] w fun e w'=>e=.returned (.string (dtR zs p b).1)/\dP base g a c zs (dtR zs p b).2 w'/\Frm (·=g) w w':=by
 have E:Hid (dtR zs p b=dtL zs (nxS zs (nxS zs p)) (dtN zs p b)):=rfl;have r:Hid (dtN zs p b=if 0<nxV zs (nxS zs p) 3/\3<nxV zs p (b+1)then(nxV zs p (b+1)).toNat % 4 else(nxV zs p (b+1)).toNat):=rfl;have U:=bO zs p (n:=(b:Int)+1) (by omega) (by omega);have s:Hid (dtN zs p b<=b):=aIF zs p b V;have Y:IntKind.i64.wrap ((b:Int)+1)=(b:Int)+1:=IntWalk.i64_in _ ⟨by omega,by omega⟩;obtain⟨n,y⟩:∃n:Nat,dtN zs p b=n:=⟨_,rfl⟩;obtain⟨d,h⟩:∃d,Hid (nxS zs (nxS zs p)=d):=⟨_,rfl⟩;rw[E.out,y,h.out];rw[y]at r s;go_enter Tryz.func64,Tryz.ntmps64;go_wp2_with fail;refine(aZ base g a c zs p ((b:Int)+1) (by omega) (by omega) _ I).mono ?_;rintro e w1 ⟨rfl,G,L⟩;go_wp2_with fail;refine(aZ base g a c zs _ 3 (by decide) (by decide) _ G).mono ?_;rintro e N ⟨rfl,z,K⟩;have B:=L.trans K;rw[h.out]at z;have Z:Hid (dP base g a c zs d N):=z;have sj:Hid (Frm (·=g) w N):=B;clear I G L K z B E Y;generalize nxV zs (nxS zs p) 3=q at *;generalize nxV zs p (b+1)=f at *;have F:Hid (n=if 0<q/\3<f then f.toNat % 4 else f.toNat):=r.out;have YR:n<=12:=by have:=s.out;omega
 clear r s y h;have R:(¬0<q)\/(0<q/\¬3<f)\/(0<q/\3<f):=by omega
 rcases R with x | ⟨x,H⟩ | ⟨x,H⟩
 all_goals
  first
   | (have u:f=(n:Int):=(by rw[F.out,if_neg (by omega)];omega);subst u)
   | (have u:f.tmod 4=(n:Int):=(by rw[F.out,if_pos ⟨x,H⟩,Int.tmod_eq_emod_of_nonneg U.1];omega);have Kw:IntKind.i64.wrap (f.tmod 4)=(n:Int):=(by rw[u];exact IntWalk.i64_in _ ⟨by omega,by omega⟩))
  go_wp2
  go_loopw [6,7] (fun t i wr=>∃k:Nat,k<=n/\i=.int .i64 k/\t=.string (dtL zs d k).1/\dP base g a c zs (dtL zs d k).2 wr/\Frm (·=g) w wr) (fun _ i _=>n -(intOf i).toNat)
  case atStart=>exact⟨0,Nat.zero_le _,rfl,rfl,Z.out,sj.out⟩
  case round=>
   obtain⟨k,hk,rfl,rfl,j,o⟩:=hrel;by_cases ak:k<n
   ·have X:(k:Int) <(n:Int):=by omega
    have l:Hid (dtL zs d (k+1)=((dtL zs d k).1++txB [nxV zs (dtL zs d k).2 256],nxS zs (dtL zs d k).2)):=rfl;have T:=zD zs d k;have J:=bO zs (dtL zs d k).2 (n:=256) (by decide) (by decide);obtain⟨t,ht⟩:=eZ ((dtL zs d k).1);obtain⟨A,Q⟩:=eZ ((dtL zs d k).2);rw[ht]at T l |-;rw[Q]at j l J;go_wp2_with fail;refine(aZ base g a c zs A 256 (by decide) (by decide) _ j).mono ?_;rintro e m ⟨rfl,M,C⟩;have D:=o.trans C;generalize nxV zs A 256=v at *;have qt:=aHY m v J m.heap.size rfl;have Z7:IntKind.u8.wrap v=v:=IntWalk.u8_in _ ⟨by omega,by omega⟩;have Zz:(txB [v]).size=1:=lR [v];have q9:∀W:World,(Op.stringOp .add t (txB [v])).run Tryz.prog W=.ok (.string (t++txB [v])) W:=fun W=>run_string_add_sum (P:=Tryz.prog) (w:=W) t (txB [v]) (by omega);have O:Hid (dP base g a c zs (nxS zs A) (m.alloc (.cells #[.int .u8 v] 5))):=M.below (aOY _ _);have S:Hid (Frm (·=g) w (m.alloc (.cells #[.int .u8 v] 5))):=D.trans (Frm.aa (aOY _ _));clear M C D j o;go_wp2;go_roundw
    case rel=>exact⟨k+1,by omega,by go_num,by rw[l.out],by rw[l.out];exact O.out,S.out⟩
    case measure=>simp[intOf];omega
   ·have X:¬(k:Int) <(n:Int):=by omega
    obtain rfl:k=n:=by omega
    go_wp2
    go_ret
    exact⟨rfl,j,o⟩
theorem rM(w:World)(v u:Int)(e:0<=v/\v<256)(d:0<=u/\u<256)(g:Nat)(a:g=w.heap.size):(convert 22 9 (.slice (some ⟨g,0,none⟩) 2 2)).run Tryz.prog (w.alloc (.cells #[.int .u8 v,.int .u8 u] 5))=.ok (.string (txB [v,u])) (w.alloc (.cells #[.int .u8 v,.int .u8 u] 5)):=by
 have b:Bts (w.alloc (.cells #[.int .u8 v,.int .u8 u] 5)) (.slice (some ⟨g,0,none⟩) 2 2) [v,u]:=by
  refine⟨fun i=>?_,some ⟨g,0,none⟩,2,rfl,fun _=>⟨g,0,rfl,fun i c=>?_⟩⟩
  ·match i with
   | 0=>simpa using e
   | 1=>simpa using d
   | i+2=>simp
  ·have:i=0\/i=1:=by simp at c;omega
   rcases this with rfl | rfl
   ·rw[World.cell?_alloc_at _ _ _ _ (by simp[a])];rfl
   ·rw[World.cell?_alloc_at _ _ _ _ (by simp[a])];rfl
 exact yV b (by omega)
def ris(i:Int):ByteArray:=txB [(97+i / 90) % 256,33+i % 90]
theorem aJN(i:Int):(ris i).size=2:=lR _
theorem kE(i:Int)(a:0<=i)(h1:i<=1048576)(w:World):Calls Tryz.prog 42 #[.int .i64 i] w fun e w'=>e=.returned (.string (ris i))/\Bl w w':=by
 have b:i.tdiv 90=i / 90:=Int.tdiv_eq_ediv_of_nonneg a;have c:i.tmod 90=i % 90:=Int.tmod_eq_emod_of_nonneg a;have d:IntKind.i64.wrap (i / 90)=i / 90:=IntWalk.i64_in _ ⟨by omega,by omega⟩;have f:IntKind.i64.wrap (i % 90)=i % 90:=IntWalk.i64_in _ ⟨by omega,by omega⟩;have g:IntKind.i64.wrap (97+i / 90)=97+i / 90:=IntWalk.i64_in _ ⟨by omega,by omega⟩;have h:IntKind.i64.wrap (33+i % 90)=33+i % 90:=IntWalk.i64_in _ ⟨by omega,by omega⟩;have k:IntKind.u8.wrap (97+i / 90)=(97+i / 90) % 256:=by simp[IntKind.wrap,IntKind.signed,IntKind.bits]
 have l:IntKind.u8.wrap (33+i % 90)=33+i % 90:=IntWalk.u8_in _ ⟨by omega,by omega⟩;have j:=rM w ((97+i / 90) % 256) (33+i % 90) (by omega) (by omega) w.heap.size rfl;go_enter Tryz.func42,Tryz.ntmps42;go_wp2;go_ret;exact⟨rfl,aOY _ _⟩
def dkR(zs:List Int)(p:St2):ByteArray×St2:=if nxV zs p 30=0 then(.empty,nxS zs p)else if nxV zs p 30=1 then dtR zs (nxS zs p) 12 else(txB [97+nxV zs (nxS zs p) 10,48+nxV zs (nxS zs (nxS zs p)) 10],nxS zs (nxS zs (nxS zs p)))
theorem aIC(zs:List Int)(p:St2):(dkR zs p).1.size<=12:=by
 unfold dkR;split
 ·exact Nat.zero_le _
 ·split
  ·exact aIG _ _ _ (nR _)
  ·rw[show(txB [97+nxV zs (nxS zs p) 10,48+nxV zs (nxS zs (nxS zs p)) 10],nxS zs (nxS zs (nxS zs p))).1=txB [97+nxV zs (nxS zs p) 10,48+nxV zs (nxS zs (nxS zs p)) 10]from rfl,lR];simp
theorem zQ(base g:Nat)(a:Option Addr)(c:Nat)(zs:List Int)(p:St2)(w:World)(q:dP base g a c zs p w):
  Calls Tryz.prog 41 #[.pointer (some ⟨g,0,none⟩)] w fun e w'=>e=.returned (.string (dkR zs p).1)/\dP base g a c zs (dkR zs p).2 w'/\Frm (·=g) w w':=by
 have y:=bO zs p (n:=30) (by decide) (by decide);have z:=bO zs (nxS zs p) (n:=10) (by decide) (by decide);have A:=bO zs (nxS zs (nxS zs p)) (n:=10) (by decide) (by decide);have b:Hid (dkR zs p=if nxV zs p 30=0 then(.empty,nxS zs p)else if nxV zs p 30=1 then dtR zs (nxS zs p) 12 else(txB [97+nxV zs (nxS zs p) 10,48+nxV zs (nxS zs (nxS zs p)) 10],nxS zs (nxS zs (nxS zs p)))):=rfl;generalize dkR zs p=R at *;go_enter Tryz.func41,Tryz.ntmps41;go_wp2_with fail;refine(aZ base g a c zs p 30 (by decide) (by decide) _ q).mono ?_;rintro e w1 ⟨rfl,f,j⟩;clear q;generalize nxV zs p 30=k at *;by_cases e0:k=0
 ·have d:Hid (R=_):=b.out.trans (if_pos e0)
  clear b;go_wp2;go_ret;rw[d.out];exact⟨rfl,f,j⟩
 ·by_cases o:k=1
  ·have d:Hid (R=_):=(b.out.trans (if_neg e0)).trans (if_pos o)
   clear b;go_wp2_with fail;refine(xD base g a c zs _ 12 (nR _) _ f).mono ?_;rintro e x ⟨rfl,h,i⟩;go_wp2;go_ret;rw[d.out];exact⟨rfl,h,j.trans i⟩
  ·have d:Hid (R=_):=(b.out.trans (if_neg e0)).trans (if_neg o)
   clear b;go_wp2_with fail;refine(aZ base g a c zs _ 10 (by decide) (by decide) _ f).mono ?_;rintro e x ⟨rfl,h,i⟩;generalize nxV zs (nxS zs p) 10=u at *;have C:IntKind.i64.wrap (97+u)=97+u:=IntWalk.i64_in _ ⟨by omega,by omega⟩;have D:IntKind.u8.wrap (97+u)=97+u:=IntWalk.u8_in _ ⟨by omega,by omega⟩;go_wp2_with fail;refine(aZ base g a c zs _ 10 (by decide) (by decide) _ h).mono ?_;rintro e l ⟨rfl,r,m⟩;generalize nxV zs (nxS zs (nxS zs p)) 10=v at *;have E:IntKind.i64.wrap (48+v)=48+v:=IntWalk.i64_in _ ⟨by omega,by omega⟩;have F:IntKind.u8.wrap (48+v)=48+v:=IntWalk.u8_in _ ⟨by omega,by omega⟩;have B:=rM l (97+u) (48+v) (by omega) (by omega) l.heap.size rfl;have t:Hid (dP base g a c zs (nxS zs (nxS zs (nxS zs p))) (l.alloc (.cells #[.int .u8 (97+u),.int .u8 (48+v)] 5))):=r.below (aOY _ _);have s:Hid (Frm (·=g) w (l.alloc (.cells #[.int .u8 (97+u),.int .u8 (48+v)] 5))):=((j.trans i).trans m).trans (Frm.aa (aOY _ _));clear f h r j i m;go_wp2;go_ret;rw[d.out];exact⟨rfl,t.out,s.out⟩
def tbR(zs:List Int)(p:St2):Int×St2:=if nxV zs p 16=0 then(512,nxS zs p)else if nxV zs p 16=1 then(8+nxV zs (nxS zs p) 4,nxS zs (nxS zs p))else(16+nxV zs (nxS zs p) 120,nxS zs (nxS zs p))
theorem mX(base g:Nat)(a:Option Addr)(c:Nat)(zs:List Int)(p:St2)(w:World)(m:dP base g a c zs p w):
  Calls Tryz.prog 26 #[.pointer (some ⟨g,0,none⟩)] w fun e w'=>e=.returned (.int .i64 (tbR zs p).1)/\dP base g a c zs (tbR zs p).2 w'/\Frm (·=g) w w':=by
 have r:=bO zs p (n:=16) (by decide) (by decide);have s:=bO zs (nxS zs p) (n:=4) (by decide) (by decide);have t:=bO zs (nxS zs p) (n:=120) (by decide) (by decide);have b:Hid (tbR zs p=if nxV zs p 16=0 then(512,nxS zs p)else if nxV zs p 16=1 then(8+nxV zs (nxS zs p) 4,nxS zs (nxS zs p))else(16+nxV zs (nxS zs p) 120,nxS zs (nxS zs p))):=rfl;generalize tbR zs p=R at *;go_enter Tryz.func26,Tryz.ntmps26;go_wp2_with fail;refine(aZ base g a c zs p 16 (by decide) (by decide) _ m).mono ?_;rintro e w1 ⟨rfl,f,j⟩;clear m;generalize nxV zs p 16=k at *;by_cases e0:k=0
 ·have d:Hid (R=_):=b.out.trans (if_pos e0)
  clear b;go_wp2;go_ret;rw[d.out];exact⟨rfl,f,j⟩
 ·by_cases l:k=1
  ·have d:Hid (R=_):=(b.out.trans (if_neg e0)).trans (if_pos l)
   clear b;go_wp2_with fail;refine(aZ base g a c zs _ 4 (by decide) (by decide) _ f).mono ?_;rintro e q ⟨rfl,h,i⟩;generalize nxV zs (nxS zs p) 4=u at *;have o:IntKind.i64.wrap (8+u)=8+u:=IntWalk.i64_in _ ⟨by omega,by omega⟩;go_wp2;go_ret;rw[d.out];exact⟨rfl,h,j.trans i⟩
  ·have d:Hid (R=_):=(b.out.trans (if_neg e0)).trans (if_neg l)
   clear b;go_wp2_with fail;refine(aZ base g a c zs _ 120 (by decide) (by decide) _ f).mono ?_;rintro e q ⟨rfl,h,i⟩;generalize nxV zs (nxS zs p) 120=u at *;have o:IntKind.i64.wrap (16+u)=16+u:=IntWalk.i64_in _ ⟨by omega,by omega⟩;go_wp2;go_ret;rw[d.out];exact⟨rfl,h,j.trans i⟩
end Go.Proofs.YtmpagpeenjddgaaGreat
namespace Go.Proofs.YtmpagpeenjddgaaGreat
open Go.RowKit Fo
section
variable (w : World)
theorem r0:(Instr.build 92 #[(0,.int .i64 0),(1,.int .i64 2)]).run Tryz.prog w=.ok (.agg #[.int .i64 0,.int .i64 2]) w:=by kernel_rfl
theorem r1:(Instr.buildSlice 56 1 #[(0,.agg #[.int .i64 0,.int .i64 2])]).run Tryz.prog w=.ok (.slice (some ⟨w.heap.size,0,none⟩) 1 1) (w.alloc (.cells #[.int .i64 0,.int .i64 2] 92)):=by kernel_rfl
theorem r2:(Instr.makeMap 64 none).run Tryz.prog w=.ok (.map (some w.heap.size)) (w.alloc (.map #[] 0)):=rfl
theorem r3:(Instr.build 96 #[(0,.int .i64 1)]).run Tryz.prog w=.ok (.agg #[.int .i64 1,.slice none 0 0]) w:=by kernel_rfl
theorem r4:(Instr.box 96 (.agg #[.int .i64 1,.slice none 0 0])).run Tryz.prog w=.ok (.pointer (some ⟨w.heap.size,0,none⟩)) (w.alloc (.cells #[.int .i64 1,.slice none 0 0] 96)):=by kernel_rfl
theorem r8(n:Nat)(hn:n<=512):(Instr.makeSlice 29 (.int .i64 (n:Int)) (.int .i64 (n:Int))).run Tryz.prog w=.ok (.slice (some ⟨w.heap.size,0,none⟩) n n) (w.alloc (.cells (dI (List.replicate n 0)) 2)):=by
 have h:=run_make_row' (P:=Tryz.prog) 29 2 (.int .i64 0) 8 Tryz.underlying29 sM rfl .i64 .i64 n (by omega) (by omega) w;have e:madeCells #[.int .i64 0] n=dI (List.replicate n 0):=by
  apply Array.toList_inj.1
  rw[toList_madeCells_one];simp[dI]
 rw[e]at h;exact h
theorem r11:(Instr.buildSlice 29 1 #[(0,.int .i64 3)]).run Tryz.prog w=.ok (.slice (some ⟨w.heap.size,0,none⟩) 1 1) (w.alloc (.cells #[.int .i64 3] 2)):=by kernel_rfl
theorem r12(r m c d q n:Nat):(Instr.build 67 #[(0,.slice (some ⟨r,0,none⟩) 1 1),(1,.int .i64 1),(2,.int .i64 1),(3,.map (some m)),(4,.slice (some ⟨c,0,none⟩) n n),(5,.slice (some ⟨d,0,none⟩) n n),(6,.slice (some ⟨q,0,none⟩) 1 1)]).run Tryz.prog w=.ok (.agg #[.slice (some ⟨r,0,none⟩) 1 1,.int .i64 1,.int .i64 1,.map (some m),.slice (some ⟨c,0,none⟩) n n,.slice (some ⟨d,0,none⟩) n n,.slice (some ⟨q,0,none⟩) 1 1,.slice none 0 0]) w:=by kernel_rfl
theorem r13(r m c d q n:Nat):(Instr.box 67 (.agg #[.slice (some ⟨r,0,none⟩) 1 1,.int .i64 1,.int .i64 1,.map (some m),.slice (some ⟨c,0,none⟩) n n,.slice (some ⟨d,0,none⟩) n n,.slice (some ⟨q,0,none⟩) 1 1,.slice none 0 0])).run Tryz.prog w=.ok (.pointer (some ⟨w.heap.size,0,none⟩)) (w.alloc (.cells #[.slice (some ⟨r,0,none⟩) 1 1,.int .i64 1,.int .i64 1,.map (some m),.slice (some ⟨c,0,none⟩) n n,.slice (some ⟨d,0,none⟩) n n,.slice (some ⟨q,0,none⟩) 1 1,.slice none 0 0] 67)):=by kernel_rfl
end
theorem dN{P:Program}{o:Oper}{a:Act}{w w':World}{v:Value}{K:Act->World->Prop}{Q:Exit->Act->World->Prop}(h:(execOp a.eval o).run P w=.ok (.value v) w')(b:K (a.put o.dst v) w'):o.wp P a w K Q:=by
 unfold Oper.wp;rw[h];exact b
theorem aMM{P:Program}{o:Oper}{a:Act}{w w':World}{K:Act->World->Prop}{Q:Exit->Act->World->Prop}(h:(execOp a.eval o).run P w=.ok .skip w')(b:K (a.put o.dst undef) w'):o.wp P a w K Q:=by
 unfold Oper.wp;rw[h];exact b
theorem aAP{b b':Nat}{n:Nat}(h:b≠b'):Value.slice (some ⟨b,0,none⟩) n n≠Value.slice (some ⟨b',0,none⟩) n n:=fun e=>by
 simp only[Value.slice.injEq,sJ,Addr.mk.injEq,and_true]at e;exact h e
theorem aOE(a:Array Value)(h:a.size=33):∃x0 x1 x2 x3 x4 x5 x6 x7 x8 x9 x10 x11 x12 x13 x14 x15 x16 x17 x18 x19 x20 x21 x22 x23 x24 x25 x26 x27 x28 x29 x30 x31 x32,a=#[x0,x1,x2,x3,x4,x5,x6,x7,x8,x9,x10,x11,x12,x13,x14,x15,x16,x17,x18,x19,x20,x21,x22,x23,x24,x25,x26,x27,x28,x29,x30,x31,x32]:=by
 obtain⟨l⟩:=a;have b:l.length=33:=by simpa using h
 clear h;rcases l with _ | ⟨x0,_ | ⟨x1,_ | ⟨x2,_ | ⟨x3,_ | ⟨x4,_ | ⟨x5,_ | ⟨x6,_ | ⟨x7,_ | ⟨x8,_ | ⟨x9,_ | ⟨x10,_ | ⟨x11,_ | ⟨x12,_ | ⟨x13,_ | ⟨x14,_ | ⟨x15,_ | ⟨x16,_ | ⟨x17,_ | ⟨x18,_ | ⟨x19,_ | ⟨x20,_ | ⟨x21,_ | ⟨x22,_ | ⟨x23,_ | ⟨x24,_ | ⟨x25,_ | ⟨x26,_ | ⟨x27,_ | ⟨x28,_ | ⟨x29,_ | ⟨x30,_ | ⟨x31,_ | ⟨x32,_ | ⟨y,l⟩⟩⟩⟩⟩⟩⟩⟩⟩⟩⟩⟩⟩⟩⟩⟩⟩⟩⟩⟩⟩⟩⟩⟩⟩⟩⟩⟩⟩⟩⟩⟩⟩⟩
 all_goals first | exact⟨_,_,_,_,_,_,_,_,_,_,_,_,_,_,_,_,_,_,_,_,_,_,_,_,_,_,_,_,_,_,_,_,_,rfl⟩ | (simp at b)
def aLF(n:Nat):List Int:=((List.replicate n 0).set 2 1).set 3 1
def aNH(n:Nat):List Int:=(List.replicate n 0).set 2 1
structure aDG(B n:Nat)(w:World)(f r m p c d q:Nat):Prop where
 fst:w.heap[f]?=some (.cells #[.slice (some ⟨r,0,none⟩) 1 1,.int .i64 1,.int .i64 1,.map (some m),.slice (some ⟨c,0,none⟩) n n,.slice (some ⟨d,0,none⟩) n n,.slice (some ⟨q,0,none⟩) 1 1,.slice none 0 0] 67 (0,0))
 root:w.heap[r]?=some (.cells #[.int .i64 0,.int .i64 2] 92 (0,0))
 map:aKT w m p
 node:w.heap[p]?=some (.cells #[.int .i64 1,.slice none 0 0] 96 (0,0))
 crq:w.heap[c]?=some (.cells (dI (aNH n)) 2 (0,0))
 cmq:w.heap[d]?=some (.cells (dI (aLF n)) 2 (0,0))
 tab:w.heap[q]?=some (.cells #[.int .i64 3] 2 (0,0))
 hf:B<=f
 hr:B<=r
 hm:B<=m
 hp:B<=p
 hc:B<=c
 hd:B<=d
 hq:B<=q
 cd:c≠d
theorem qQ(n:Nat)(hn:8<=n/\n<=512)(w:World):
  Calls Tryz.prog 35 #[.int .i64 n] w fun e w'=>∃f r m p c d q,e=.returned (.pointer (some ⟨f,0,none⟩))/\aDG w.heap.size n w' f r m p c d q/\Bl w w':=by
 go_enter Tryz.func35,Tryz.ntmps35
 go_wp2_with fail
 refine wp_region_any (by kernel_rfl) ?_;refine aHB (FI w n) ?step ?fin (aBG (aHL (by kernel_rfl))) _ _ _ _ (by simp) ?cl (by kernel_rfl) ?ini
 case cl=>intro k B;exfalso;simp[Array.getElem?_replicate]at B;split at B<;>simp at B
 case ini=>
  refine⟨rfl,rfl,rfl,(bQ _ _).drew,fun k B=>?_,fun B=>?_⟩
  ·exfalso;simp[Array.getElem?_replicate]at B;split at B<;>simp at B
  ·exfalso;simp at B
 case step=>
  intro l a w1 hs y h i o j Zo C G;have F:l.size=15:=hs;have R6:i<15:=by
   by_cases hh:i<15
   ·exact hh
   ·rw[Array.getElem?_eq_none (by simpa using Nat.le_of_not_lt hh)]at j;cases j
  have s:=j;have P:=h.below.size;match i,R6 with
  | 0,_=>
   simp only[List.getElem?_toArray,List.getElem?_cons_zero,sJ]at j;subst j;refine eD s rfl (dN (v:=.agg #[.int .i64 0,.int .i64 2]) (w':=w1) (by simp only[execOp,Act.eval,List.map_toArray,List.map_cons,List.map_nil,Sem.run_bind,Sem.run_pure,Result.andThen_ok,r0]) ?_);exact h.next (by kernel_rfl) y s (by omega) F C (by omega) 4 rfl (by omega) (by omega) _ _ (bQ _ _) (rfl) (h.au 0 4 _ (by omega) (by omega) (by omega) (by omega))
  | 1,_=>
   simp only[iA,iB,iC,sJ]at j;subst j;have l0:l.getD 0 false=true:=G {on:=0,ground:=.data} (by simp) rfl;have f0:a.tmps.getD 4 undef=.agg #[.int .i64 0,.int .i64 2]:=h.facts 0 l0;refine eD s rfl (dN (v:=.slice (some ⟨w1.heap.size,0,none⟩) 1 1) (w':=(w1.alloc (.cells #[.int .i64 0,.int .i64 2] 92))) (by simp only[execOp,Act.eval,List.map_toArray,List.map_cons,List.map_nil,Sem.run_bind,Sem.run_pure,Result.andThen_ok,f0,r1]) ?_);exact h.next (by kernel_rfl) y s (by omega) F C (by omega) 5 rfl (by omega) (by omega) _ _ (iQ w1 _) (⟨_,rfl,P,heap_alloc_new w1 _⟩) (h.au 1 5 _ (by omega) (by omega) (by omega) (by omega))
  | 2,_=>
   simp only[iA,iB,iC,sJ]at j;subst j;refine eD s rfl (dN (v:=.map (some w1.heap.size)) (w':=(w1.alloc (.map #[] 0))) (by simp only[execOp,Option.map_none,Sem.run_bind,Sem.run_pure,Result.andThen_ok,r2]) ?_);exact h.next (by kernel_rfl) y s (by omega) F C (by omega) 6 rfl (by omega) (by omega) _ _ (iQ w1 _) (⟨_,rfl,P,⟨_,_,heap_alloc_new w1 _⟩,fun _=>heap_alloc_new w1 _⟩) (h.au 2 6 _ (by omega) (by omega) (by omega) (by omega))
  | 3,_=>
   simp only[iA,iB,iC,sJ]at j;subst j;refine eD s rfl (dN (v:=.agg #[.int .i64 1,.slice none 0 0]) (w':=w1) (by simp only[execOp,Act.eval,List.map_toArray,List.map_cons,List.map_nil,Sem.run_bind,Sem.run_pure,Result.andThen_ok,r3]) ?_);exact h.next (by kernel_rfl) y s (by omega) F C (by omega) 7 rfl (by omega) (by omega) _ _ (bQ _ _) (rfl) (h.au 3 7 _ (by omega) (by omega) (by omega) (by omega))
  | 4,_=>
   simp only[iA,iB,iC,sJ]at j;subst j;have l3:l.getD 3 false=true:=G {on:=3,ground:=.data} (by simp) rfl;have f3:a.tmps.getD 7 undef=.agg #[.int .i64 1,.slice none 0 0]:=h.facts 3 l3;refine eD s rfl (dN (v:=.pointer (some ⟨w1.heap.size,0,none⟩)) (w':=(w1.alloc (.cells #[.int .i64 1,.slice none 0 0] 96))) (by simp only[execOp,Act.eval,Sem.run_bind,Sem.run_pure,Result.andThen_ok,f3,r4]) ?_);exact h.next (by kernel_rfl) y s (by omega) F C (by omega) 8 rfl (by omega) (by omega) _ _ (iQ w1 _) (⟨_,rfl,P,heap_alloc_new w1 _⟩) (h.au 4 8 _ (by omega) (by omega) (by omega) (by omega))
  | 5,_=>
   simp only[iA,iB,iC,sJ]at j;subst j;have V:l.getD 2 false=true:=G {on:=2,ground:=.data} (by simp) rfl;have l4:l.getD 4 false=true:=G {on:=4,ground:=.data} (by simp) rfl;obtain⟨m,A,hm,_,he⟩:=h.facts 2 V;obtain⟨p,S,_⟩:=h.facts 4 l4;have Fh:=he C;obtain⟨w2,hr,hN,hu⟩:=aLY (p:=p) Fh;simp only at A S;refine eD s rfl (aMM (w':=w2) (by simp only[execOp,Act.eval,A,S,hr,Sem.run_bind,Sem.run_pure,Result.andThen_ok]) ?_);exact h.ins F C w2 m p A S hm hN hu Fh
  | 6,_=>
   simp only[iA,iB,iC,sJ]at j;subst j;have V:l.getD 2 false=true:=G {on:=2,ground:=.data} (by simp) rfl;obtain⟨m,A,_⟩:=h.facts 2 V;simp only at A;refine eD s rfl (dN (v:=.map (some m)) (w':=w1) (by simp only[execOp,Act.eval,Sem.run_pure,A]) ?_);exact h.next (by kernel_rfl) y s (by omega) F C (by omega) 9 rfl (by omega) (by omega) _ _ (bQ _ _) (by show(_:Value)=_;simpa using A.symm) (h.au 6 9 _ (by omega) (by omega) (by omega) (by omega))
  | 7,_=>
   simp only[iA,iB,iC,sJ]at j;subst j;have fa:=h.arg;refine eD s rfl (dN (v:=.int .i64 n) (w':=w1) (by simp only[execOp,Act.eval,Sem.run_pure,fa]) ?_);exact h.next (by kernel_rfl) y s (by omega) F C (by omega) 10 rfl (by omega) (by omega) _ _ (bQ _ _) (rfl) (h.au 7 10 _ (by omega) (by omega) (by omega) (by omega))
  | 8,_=>
   simp only[iA,iB,iC,sJ]at j;subst j;have l7:l.getD 7 false=true:=G {on:=7,ground:=.data} (by simp) rfl;have f7:a.tmps.getD 10 undef=.int .i64 n:=h.facts 7 l7;refine eD s rfl (dN (v:=.slice (some ⟨w1.heap.size,0,none⟩) n n) (w':=(w1.alloc (.cells (dI (List.replicate n 0)) 2))) (by simp only[execOp,Act.eval,Sem.run_bind,Sem.run_pure,Result.andThen_ok,f7,r8 _ n hn.2]) ?_);exact h.next (by kernel_rfl) y s (by omega) F C (by omega) 11 rfl (by omega) (by omega) _ _ (iQ w1 _) (⟨_,rfl,P,heap_alloc_new w1 _⟩) (fun _ gd=>by
    rw[getD_set_ne false (show(8:Nat)≠10 by omega)]at gd;obtain⟨d,x,_,I⟩:=h.facts 10 gd;have f13':a.tmps.getD 13 undef=.slice (some ⟨d,0,none⟩) n n:=x;rw[if_pos rfl,if_neg (by omega),f13'];exact aAP (fun e=>by have:=(Array.getElem?_eq_some_iff.1 I).1;omega))
  | 9,_=>
   simp only[iA,iB,iC,sJ]at j;subst j;have fa:=h.arg;refine eD s rfl (dN (v:=.int .i64 n) (w':=w1) (by simp only[execOp,Act.eval,Sem.run_pure,fa]) ?_);exact h.next (by kernel_rfl) y s (by omega) F C (by omega) 12 rfl (by omega) (by omega) _ _ (bQ _ _) (rfl) (h.au 9 12 _ (by omega) (by omega) (by omega) (by omega))
  | 10,_=>
   simp only[iA,iB,iC,sJ]at j;subst j;have l9:l.getD 9 false=true:=G {on:=9,ground:=.data} (by simp) rfl;have J:a.tmps.getD 12 undef=.int .i64 n:=h.facts 9 l9;refine eD s rfl (dN (v:=.slice (some ⟨w1.heap.size,0,none⟩) n n) (w':=(w1.alloc (.cells (dI (List.replicate n 0)) 2))) (by simp only[execOp,Act.eval,Sem.run_bind,Sem.run_pure,Result.andThen_ok,J,r8 _ n hn.2]) ?_);exact h.next (by kernel_rfl) y s (by omega) F C (by omega) 13 rfl (by omega) (by omega) _ _ (iQ w1 _) (⟨_,rfl,P,heap_alloc_new w1 _⟩) (fun h8 _=>by
    rw[getD_set_ne false (show(10:Nat)≠8 by omega)]at h8;obtain⟨c,u,_,K⟩:=h.facts 8 h8;have Z:a.tmps.getD 11 undef=.slice (some ⟨c,0,none⟩) n n:=u;rw[if_neg (by omega),if_pos rfl,Z];exact aAP (fun e=>by have:=(Array.getElem?_eq_some_iff.1 K).1;omega))
  | 11,_=>
   simp only[iA,iB,iC,sJ]at j;subst j;refine eD s rfl (dN (v:=.slice (some ⟨w1.heap.size,0,none⟩) 1 1) (w':=(w1.alloc (.cells #[.int .i64 3] 2))) (by simp only[execOp,Act.eval,List.map_toArray,List.map_cons,List.map_nil,Sem.run_bind,Sem.run_pure,Result.andThen_ok,r11]) ?_);exact h.next (by kernel_rfl) y s (by omega) F C (by omega) 14 rfl (by omega) (by omega) _ _ (iQ w1 _) (⟨_,rfl,P,heap_alloc_new w1 _⟩) (h.au 11 14 _ (by omega) (by omega) (by omega) (by omega))
  | 12,_=>
   simp only[iA,iB,iC,sJ]at j;subst j;have l1:l.getD 1 false=true:=G {on:=1,ground:=.data} (by simp) rfl;have l6:l.getD 6 false=true:=G {on:=6,ground:=.data} (by simp) rfl;have l8:l.getD 8 false=true:=G {on:=8,ground:=.data} (by simp) rfl;have T:l.getD 10 false=true:=G {on:=10,ground:=.data} (by simp) rfl;have U:l.getD 11 false=true:=G {on:=11,ground:=.data} (by simp) rfl;have V:l.getD 2 false=true:=y 6 l6 _ rfl {on:=2,ground:=.data} (by simp) rfl;obtain⟨r,M,_⟩:=h.facts 1 l1;obtain⟨m,A,_⟩:=h.facts 2 V;have J:a.tmps.getD 9 undef=a.tmps.getD 6 undef:=h.facts 6 l6;obtain⟨c,u,_⟩:=h.facts 8 l8;obtain⟨d,x,_⟩:=h.facts 10 T;obtain⟨q,z,_⟩:=h.facts 11 U;simp only at M A u x z;rw[A]at J;refine eD s rfl (dN (v:=.agg #[.slice (some ⟨r,0,none⟩) 1 1,.int .i64 1,.int .i64 1,.map (some m),.slice (some ⟨c,0,none⟩) n n,.slice (some ⟨d,0,none⟩) n n,.slice (some ⟨q,0,none⟩) 1 1,.slice none 0 0]) (w':=w1) (by simp only[execOp,Act.eval,List.map_toArray,List.map_cons,List.map_nil,Sem.run_bind,Sem.run_pure,Result.andThen_ok,M,J,u,x,z,r12]) ?_);exact h.next (by kernel_rfl) y s (by omega) F C (by omega) 15 rfl (by omega) (by omega) _ _ (bQ _ _) (by show(_:Value)=Value.agg _;simp[M,J,u,x,z]) (h.au 12 15 _ (by omega) (by omega) (by omega) (by omega))
  | 13,_=>
   simp only[iA,iB,iC,sJ]at j;subst j;have H:l.getD 12 false=true:=G {on:=12,ground:=.data} (by simp) rfl;have l1:l.getD 1 false=true:=y 12 H _ rfl {on:=1,ground:=.data} (by simp) rfl;have l6:l.getD 6 false=true:=y 12 H _ rfl {on:=6,ground:=.data} (by simp) rfl;have l8:l.getD 8 false=true:=y 12 H _ rfl {on:=8,ground:=.data} (by simp) rfl;have T:l.getD 10 false=true:=y 12 H _ rfl {on:=10,ground:=.data} (by simp) rfl;have U:l.getD 11 false=true:=y 12 H _ rfl {on:=11,ground:=.data} (by simp) rfl;have V:l.getD 2 false=true:=y 6 l6 _ rfl {on:=2,ground:=.data} (by simp) rfl;obtain⟨r,M,_⟩:=h.facts 1 l1;obtain⟨m,A,_⟩:=h.facts 2 V;have J:a.tmps.getD 9 undef=a.tmps.getD 6 undef:=h.facts 6 l6;obtain⟨c,u,_⟩:=h.facts 8 l8;obtain⟨d,x,_⟩:=h.facts 10 T;obtain⟨q,z,_⟩:=h.facts 11 U;simp only at M A u x z;rw[A]at J;have D:a.tmps.getD 15 undef=.agg #[a.tmps.getD 5 undef,.int .i64 1,.int .i64 1,a.tmps.getD 9 undef,a.tmps.getD 11 undef,a.tmps.getD 13 undef,a.tmps.getD 14 undef,.slice none 0 0]:=h.facts 12 H;rw[M,J,u,x,z]at D;refine eD s rfl (dN (v:=.pointer (some ⟨w1.heap.size,0,none⟩)) (w':=(w1.alloc (.cells #[.slice (some ⟨r,0,none⟩) 1 1,.int .i64 1,.int .i64 1,.map (some m),.slice (some ⟨c,0,none⟩) n n,.slice (some ⟨d,0,none⟩) n n,.slice (some ⟨q,0,none⟩) 1 1,.slice none 0 0] 67))) (by simp only[execOp,Act.eval,Sem.run_bind,Sem.run_pure,Result.andThen_ok,D,r13]) ?_);exact h.next (by kernel_rfl) y s (by omega) F C (by omega) 16 rfl (by omega) (by omega) _ _ (iQ w1 _) (⟨_,_,by show(_:Value)=Value.agg _;simpa using D,rfl,P,heap_alloc_new w1 _⟩) (h.au 13 16 _ (by omega) (by omega) (by omega) (by omega))
  | 14,_=>
   simp only[iA,iB,iC,sJ]at j;subst j;have l13:l.getD 13 false=true:=G {on:=13,ground:=.data} (by simp) rfl;obtain⟨f,cs,_,E,_⟩:=h.facts 13 l13;simp only at E;refine eD s rfl (dN (v:=.pointer (some ⟨f,0,none⟩)) (w':=w1) (by simp only[execOp,Act.eval,Sem.run_pure,E]) ?_);exact h.next (by kernel_rfl) y s (by omega) F C (by omega) 3 rfl (by omega) (by omega) _ _ (bQ _ _) (by show(_:Value)=_;simpa using E.symm) (h.au 14 3 _ (by omega) (by omega) (by omega) (by omega))
 case fin=>
  intro l a w1 hs h bg;have g:=fun k (B:k<15)=>bg k B;obtain⟨r,M,AN,pn⟩:=h.facts 1 (g 1 (by omega));obtain⟨p,S,IM,CQ⟩:=h.facts 4 (g 4 (by omega));obtain⟨m,p',A,O,hN⟩:=h.facts 5 (g 5 (by omega));obtain⟨m',N,xw,_⟩:=h.facts 2 (g 2 (by omega));have J:a.tmps.getD 9 undef=a.tmps.getD 6 undef:=h.facts 6 (g 6 (by omega));obtain⟨c,u,ff,K⟩:=h.facts 8 (g 8 (by omega));obtain⟨d,x,KN,I⟩:=h.facts 10 (g 10 (by omega));obtain⟨q,z,uy,iw⟩:=h.facts 11 (g 11 (by omega));have D:a.tmps.getD 15 undef=.agg #[a.tmps.getD 5 undef,.int .i64 1,.int .i64 1,a.tmps.getD 9 undef,a.tmps.getD 11 undef,a.tmps.getD 13 undef,a.tmps.getD 14 undef,.slice none 0 0]:=h.facts 12 (g 12 (by omega));obtain⟨f,cs,L,E,qe,X⟩:=h.facts 13 (g 13 (by omega));have f3:a.tmps.getD 3 undef=a.tmps.getD 16 undef:=h.facts 14 (g 14 (by omega));have sr:=h.apart (g 8 (by omega)) (g 10 (by omega));simp only at M A N S O u x z L E;rw[u,x]at sr;have ur:c≠d:=fun e=>sr (by rw[e]);obtain rfl:m=m':=by rw[A]at N;simpa using N
  obtain rfl:p=p':=by rw[S]at O;simpa using O
  rw[A]at J;rw[M,J,u,x,z,L]at D;obtain rfl:cs=#[.slice (some ⟨r,0,none⟩) 1 1,.int .i64 1,.int .i64 1,.map (some m),.slice (some ⟨c,0,none⟩) n n,.slice (some ⟨d,0,none⟩) n n,.slice (some ⟨q,0,none⟩) 1 1,.slice none 0 0]:=by simpa using D
  rw[E]at f3;have P:=h.below;obtain⟨tm,df⟩:=a;have Ah:df=[]:=h.defers;subst Ah;have ay:tm.size=33:=h.size;have Lk:tm.getD 0 undef=.int .i64 n:=h.arg;have XM:tm.getD 3 undef=.pointer (some ⟨f,0,none⟩):=f3;clear h bg g M A N S O J u x z D L E f3 sr;obtain⟨x0,x1,x2,x3,x4,x5,x6,x7,x8,x9,x10,x11,x12,x13,x14,x15,x16,x17,x18,x19,x20,x21,x22,x23,x24,x25,x26,x27,x28,x29,x30,x31,x32,rfl⟩:=aOE tm ay;obtain rfl:x0=.int .i64 n:=Lk;obtain rfl:x3=.pointer (some ⟨f,0,none⟩):=XM;clear ay;have NN:c<w1.heap.size:=(Array.getElem?_eq_some_iff.1 K).1;have ZY:c≠f:=fun e=>by rw[e,X]at K;simp at K
  have Xp:d≠f:=fun e=>by rw[e,X]at I;simp at I
  have DY:(2:Int) <(n:Int):=by omega
  have Du:(3:Int) <(n:Int):=by omega
  have e4:w1.cell? ⟨f,4,none⟩=some (.slice (some ⟨c,0,none⟩) n n):=by simp[World.cell?,X]
  have e5:w1.cell? ⟨f,5,none⟩=some (.slice (some ⟨d,0,none⟩) n n):=by simp[World.cell?,X]
  have ec2:w1.cell? ⟨c,2,none⟩=some (.int .i64 0):=by simp[World.cell?,K,dI,show 2<n by omega]
  have ecf:w1.frozen? ⟨c,2,none⟩=false:=frozen_of_row w1 c _ _ _ K;have ed2:w1.cell? ⟨d,2,none⟩=some (.int .i64 0):=by simp[World.cell?,I,dI,show 2<n by omega]
  have ed3:w1.cell? ⟨d,3,none⟩=some (.int .i64 0):=by simp[World.cell?,I,dI,show 3<n by omega]
  have edf:w1.frozen? ⟨d,2,none⟩=false:=frozen_of_row w1 d _ _ _ I;have edf3:w1.frozen? ⟨d,3,none⟩=false:=frozen_of_row w1 d _ _ _ I;obtain⟨W,Y⟩:=exH (((w1.setCell ⟨c,2,none⟩ (.int .i64 1)).setCell ⟨d,2,none⟩ (.int .i64 1)).setCell ⟨d,3,none⟩ (.int .i64 1));have R:∀k,k≠c->k≠d->W.heap[k]?=w1.heap[k]?:=fun k k1 k2=>by
   rw[Y.out];exact(Below.heap_setCell _ ⟨d,3,none⟩ _ k k2).trans ((Below.heap_setCell _ ⟨d,2,none⟩ _ k k2).trans (Below.heap_setCell _ ⟨c,2,none⟩ _ k k1))
  have Lz:∀k cs t,w1.heap[k]?=some (.cells cs t (0,0))->t≠2->k≠c/\k≠d:=fun k cs t B ht=>⟨fun e=>by rw[e,K]at B;simp at B;exact ht B.2.symm,fun e=>by rw[e,I]at B;simp at B;exact ht B.2.symm⟩;have Mg:aDG w.heap.size n W f r m p c d q:=by
   have PW:m≠c/\m≠d:=by
    obtain⟨⟨es,c0,Q⟩,_⟩:=hN;exact⟨fun e=>by rw[e,K]at Q;simp at Q,fun e=>by rw[e,I]at Q;simp at Q⟩
   have VR:q≠c/\q≠d:=by
    have et:∀b,w1.heap[b]?=some (.cells (dI (List.replicate n 0)) 2 (0,0))->q≠b:=fun b hb e=>by
     rw[e,hb]at iw;have Q:=congrArg (fun o=>match o with | some (Obj.cells cs _ _)=>cs.size | _=>0) iw;simp[dI]at Q;omega
    exact⟨et c K,et d I⟩
   have Ev:=Lz f _ _ X (by decide);have ju:=Lz r _ _ pn (by decide);have Fp:=Lz p _ _ CQ (by decide);refine⟨(R f Ev.1 Ev.2).trans X,(R r ju.1 ju.2).trans pn,?_,(R p Fp.1 Fp.2).trans CQ,?_,?_,(R q VR.1 VR.2).trans iw,qe,AN,xw,IM,ff,KN,uy,ur⟩
   ·obtain⟨⟨es,c0,Q⟩,h2⟩:=hN
    exact⟨⟨es,c0,(R m PW.1 PW.2).trans Q⟩,h2.of (R m PW.1 PW.2)⟩
   ·have s1:=heap_setCell_same _ c 2 _ _ (.int .i64 1) K
    have s2:=(Below.heap_setCell _ ⟨d,3,none⟩ (.int .i64 1) c ur).trans ((Below.heap_setCell _ ⟨d,2,none⟩ (.int .i64 1) c ur).trans s1);have e:(dI (List.replicate n 0)).setIfInBounds 2 (.int .i64 1)=dI (aNH n):=by
     apply Array.toList_inj.1
     simp[dI,aNH,List.map_set]
    rw[Y.out,s2,e]
   ·have s0:(w1.setCell ⟨c,2,none⟩ (.int .i64 1)).heap[d]?=some (.cells (dI (List.replicate n 0)) 2 (0,0)):=(Below.heap_setCell _ ⟨c,2,none⟩ _ d (Ne.symm ur)).trans I
    have s1:=heap_setCell_same _ d 2 _ _ (.int .i64 1) s0;have s2:=heap_setCell_same _ d 3 _ _ (.int .i64 1) s1;have e:((dI (List.replicate n 0)).setIfInBounds 2 (.int .i64 1)).setIfInBounds 3 (.int .i64 1)=dI (aLF n):=by
     apply Array.toList_inj.1
     simp[dI,aLF,List.map_set]
    rw[Y.out,s2,e]
  have FR:Bl w W:=by
   rw[Y.out];exact((P.setCell (p:=⟨c,2,none⟩) ff _).setCell (p:=⟨d,2,none⟩) KN _).setCell (p:=⟨d,3,none⟩) KN _
  have AR:Hid _:=Mg;have Vs:Hid _:=FR;clear Mg FR R Lz hN pn CQ K I iw X;go_wp2_with fail;go_ret;rw[<-Y.out];exact⟨f,r,m,p,c,d,q,rfl,AR.out,Vs.out⟩
def uZ(f r m p c d:Nat):Nat->Nat:=fun x=>if x=f then 1 else if x=r then 2 else if x=m then 3 else if x=c then 4 else if x=d then 5 else if x=p then cJ 2 else 0
def qM(r m p c d q:Nat):Adr:={ra:=r,rj:=[],m:=m,c:=c,d:=d,dj:=[],tv:=.slice (some ⟨q,0,none⟩) 1 1,φ:=upd (fun _=>none) 2 (some p),α:=fun _=>none}
theorem aDG.st{B n:Nat}{w:World}{f r m p c d q:Nat}(h:aDG B n w f r m p c d q)(hn:n<=512):St w (uZ f r m p c d) f (qM r m p c d q) (aH n) []/\∀x,x<B->uZ f r m p c d x=0:=by
 obtain⟨⟨es,c0,j⟩,O⟩:=h.map;have a:∀{x y:Nat} {o s:Obj},w.heap[x]?=some o->w.heap[y]?=some s->o≠s->x≠y:=fun {x y o s} M D N e=>by subst e;rw[M]at D;exact N (Option.some.inj D)
 have L:f≠r:=a h.fst h.root (by simp);have J:f≠m:=a h.fst j (by simp);have I:f≠c:=a h.fst h.crq (by simp);have fd:f≠d:=a h.fst h.cmq (by simp);have K:f≠p:=a h.fst h.node (by simp);have T:r≠m:=a h.root j (by simp);have rc:r≠c:=a h.root h.crq (by simp);have S:r≠d:=a h.root h.cmq (by simp);have U:r≠p:=a h.root h.node (by simp);have P:m≠c:=a j h.crq (by simp);have Q:m≠d:=a j h.cmq (by simp);have R:m≠p:=a j h.node (by simp);have G:c≠p:=a h.crq h.node (by simp);have H:d≠p:=a h.cmq h.node (by simp);have F:=h.cd;have l:∀{x:Nat} {o:Obj},w.heap[x]?=some o->x<w.heap.size:=fun {x o} e=>(Array.getElem?_eq_some_iff.1 e).1;refine⟨⟨none,[],[],⟨fun k E=>?_,?_,by simp[uZ],?_,by simp[uZ,qM,Ne.symm L],O,by simp[uZ,qM,Ne.symm J,Ne.symm T],?_,by simp[uZ,qM,Ne.symm I,Ne.symm rc,Ne.symm P],?_,by simp[uZ,qM,Ne.symm fd,Ne.symm S,Ne.symm Q,Ne.symm F],fun b V i=>?_,fun b i=>?_,by simp[aH,qM,maxLen],?_⟩,fun _=>JrL.start _ _⟩,fun x W=>?_⟩
 ·unfold uZ at E
  by_cases t:k=f
  ·rw[t];exact l h.fst
  by_cases u:k=r
  ·rw[u];exact l h.root
  by_cases v:k=m
  ·rw[v];exact l j
  by_cases z:k=c
  ·rw[z];exact l h.crq
  by_cases A:k=d
  ·rw[A];exact l h.cmq
  by_cases C:k=p
  ·rw[C];exact l h.node
  simp[t,u,v,z,A,C]at E
 ·have:=h.fst
  simpa [IsC,dG,qM,aH,aIT,adr] using this
 ·have:=h.root
  simpa [IsC,qM,aH,cZ,aU] using this
 ·exact h.crq
 ·have:=h.cmq
  simpa [IsC,qM,aH,jJ,dI,aLF] using this
 ·simp only[aH]at i
  split at i
  ·rename_i e
   subst e;cases i;refine⟨p,by simp[qM,aD],by simp[uZ,Ne.symm K,Ne.symm U,Ne.symm R,Ne.symm G,Ne.symm H],fun g e=>(by cases e),[],⟨by have:=h.node;simpa [IsC,adr,qM] using this,fun g e=>(by cases e),fun _=>⟨rfl,rfl⟩,by simp[maxLen]⟩⟩
  ·cases i
 ·simp only[aH]at i
  split at i
  ·cases i
  ·rename_i e
   show upd (fun _=>none) 2 (some p) b=none
   exact aC _ _ e
 ·simp[aH,qM,maxLen];omega
 ·have:=h.hf;have:=h.hr;have:=h.hm;have:=h.hp;have:=h.hc;have:=h.hd
  unfold uZ;rw[if_neg (by omega),if_neg (by omega),if_neg (by omega),if_neg (by omega),if_neg (by omega),if_neg (by omega)]
