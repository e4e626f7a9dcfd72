/- Which names may be had, over any 'begins with': plain. Nothing here names the program. -/
import Derived.Test.YtclmaglkekkigaaKa
namespace Go.Proofs.Ytclmaglkekkigaa.nmc
set_option linter.unusedVariables false
section
variable {N:Type} (un:N→N→Bool)
def amongB (n:N)(l:List N):Bool:=l.any fun p=>un n p
def allowedB (P:List (List N))(X:List N)(n:N):Bool:=(P.all fun l=>amongB un n l) && !amongB un n X
/-- The lists permitted behind Narrow. -/
def narrowP (P:List (List N))(p:List N):List (List N):=if p.length=0 then P else P++[p]
theorem among_app (n:N)(a b:List N):amongB un n (a++b)=(amongB un n a || amongB un n b):=List.any_append
theorem among_nil (n:N):amongB un n []=false:=rfl
theorem among_one (n p:N):amongB un n [p]=un n p:=Bool.or_false _
theorem among_to {n m:N}(h: ∀p,un n p=true→un m p=true){l:List N}(ha:amongB un n l=true):amongB un m l=true:=by
  unfold amongB at*
  obtain⟨p,hp,hu⟩:=List.any_eq_true.1 ha
  exact List.any_eq_true.2 ⟨p,hp,h p hu⟩
/-- One more step of a search from the front. -/
theorem among_step {n:N}{l:List N}{i:Nat}{R:Bool}(hi:i<l.length)(h:amongB un n (l.drop i)=R):(un n l[i] || amongB un n (l.drop (i+1)))=R:=by
  rw[List.drop_eq_getElem_cons hi] at h
  exact h
theorem among_end {n:N}{l:List N}{i:Nat}{R:Bool}(hi: ¬i<l.length)(h:amongB un n (l.drop i)=R):R=false:=by
  rw[List.drop_eq_nil_of_le (by omega)] at h
  exact h.symm
theorem narrow_allowed (P:List (List N))(X p e:List N)(n:N):
    allowedB un (narrowP P p) (X++e) n=((allowedB un P X n && !amongB un n e) && (decide (p.length=0) || amongB un n p)):=by
  unfold allowedB narrowP
  rw[among_app]
  by_cases hp:p.length=0
  · rw[if_pos hp,decide_eq_true hp]
    cases P.all (fun l=>amongB un n l)<;>cases amongB un n X<;>cases amongB un n e<;>rfl
  · rw[if_neg hp,decide_eq_false hp,List.all_append]
    have h1:[p].all (fun l=>amongB un n l)=amongB un n p:=Bool.and_true _
    rw[h1]
    cases P.all (fun l=>amongB un n l)<;>cases amongB un n X<;>cases amongB un n e<;>cases amongB un n p<;>rfl
theorem allowed_empty (n:N):allowedB un [] [] n=true:=rfl
theorem allowed_none (P:List (List N))(X:List N)(n:N):allowedB un (P++[[]]) X n=false:=by
  unfold allowedB
  rw[List.all_append]
  have h1:[([]:List N)].all (fun l=>amongB un n l)=false:=rfl
  rw[h1,Bool.and_false];rfl
theorem allowed_out (P:List (List N))(X:List N){n m:N}(h:un m n=true):allowedB un P (X++[n]) m=false:=by
  unfold allowedB
  rw[among_app,among_one,h,Bool.or_true]
  exact Bool.and_false _
/-- What is allowed by what is permitted alone, has all below it allowed. -/
theorem allowed_below {P:List (List N)}{n m:N}(h: ∀p,un n p=true→un m p=true)(ha:allowedB un P [] n=true):allowedB un P [] m=true:=by
  unfold allowedB at*
  rw[among_nil] at*
  rw[Bool.and_eq_true] at*
  exact⟨List.all_eq_true.2 fun l hl=>among_to un h (List.all_eq_true.1 ha.1 l hl),ha.2⟩
end
end Go.Proofs.Ytclmaglkekkigaa.nmc
