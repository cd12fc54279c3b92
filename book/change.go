package book

import (
	"pontage/api"
	"pontage/lock"
	"pontage/money"
	"pontage/pool"
	"pontage/rate"
	"pontage/token"
)

// Register: a vault more.
func (b *Book) Register(w token.Who, a lock.Address, collateral money.Amount) api.Errno {
	if b == nil || !collateral.Right() {
		return api.ErrArg
	}
	if b.taken(w, a) {
		return api.ErrSame
	}
	if len(b.vaults) >= api.MaxVaults {
		return api.ErrFull
	}
	held, e := b.hold(w, collateral, 0)
	if e != api.OK {
		return e
	}
	b.put(Vault{Who: w, Address: a, Collateral: held})
	return api.OK
}

// taken: has the party a vault, or is one at the address?
func (b *Book) taken(w token.Who, a lock.Address) bool {
	for v := range b.Vaults() {
		if v.Who == w || v.Address == a {
			return true
		}
	}
	return false
}

// More: collateral more.
func (b *Book) More(w token.Who, a money.Amount) api.Errno {
	v, e := standing(b.asked(w, a))
	if e != api.OK {
		return e
	}
	if v.Collateral, e = b.hold(w, a, v.Collateral); e != api.OK {
		return e
	}
	b.put(v)
	return api.OK
}

// Less: collateral becomes free.
func (b *Book) Less(w token.Who, a money.Amount) api.Errno {
	v, e := standing(b.asked(w, a))
	if e != api.OK {
		return e
	}
	left, e := v.Collateral.Sub(a)
	if e != api.OK {
		return e
	}
	price, e := b.Price()
	if e != api.OK {
		return e
	}
	if !b.secure(left, v.Burden(), price) {
		return api.ErrSecure
	}
	if e := b.purse.Free(w, a); e != api.OK {
		return e
	}
	v.Collateral = left
	b.put(v)
	return api.OK
}

// Reserve: Coming grows.
func (b *Book) Reserve(w token.Who, a money.Amount) api.Errno {
	v, e := standing(b.asked(w, a))
	if e != api.OK {
		return e
	}
	price, e := b.Price()
	if e != api.OK {
		return e
	}
	burden, e := v.Burden().Add(a)
	if e != api.OK {
		return e
	}
	if !b.secure(v.Collateral, burden, price) {
		return api.ErrSecure
	}
	v.Coming += a // a part of the burden, so it isn't too much
	b.put(v)
	return api.OK
}

// secure: is collateral enough for a burden by Secure?
func (b *Book) secure(collateral, burden money.Amount, p rate.Price) bool {
	return rate.Enough(collateral, burden, p, b.rules.Bands.Secure)
}

// Release: Coming shrinks.
func (b *Book) Release(w token.Who, a money.Amount) api.Errno {
	v, e := b.asked(w, a)
	if e != api.OK {
		return e
	}
	if v.Coming, e = v.Coming.Sub(a); e != api.OK {
		return e
	}
	b.put(v)
	return api.OK
}

// Mint: what was coming is issued.
func (b *Book) Mint(w, to token.Who, a money.Amount) api.Errno {
	v, e := standing(b.asked(w, a))
	if e != api.OK {
		return e
	}
	if v.Coming, e = v.Coming.Sub(a); e != api.OK {
		return e
	}
	if e := b.tokens.Mint(to, a); e != api.OK {
		return e
	}
	v.Issued += a
	b.put(v)
	return api.OK
}

// Burn: what was issued is going.
func (b *Book) Burn(w, from token.Who, a money.Amount) api.Errno {
	v, e := standing(b.asked(w, a))
	if e != api.OK {
		return e
	}
	if v.Issued-v.Leaving < a { // Leaving is a part of Issued
		return api.ErrFew
	}
	if e := b.tokens.Burn(from, a); e != api.OK {
		return e
	}
	v.Issued -= a
	v.Going += a
	b.put(v)
	return api.OK
}

// Paid: what was going was paid.
func (b *Book) Paid(w token.Who, a money.Amount) api.Errno {
	v, p, e := b.settled(w, a)
	if e != api.OK {
		return e
	}
	b.pool = p
	b.put(v)
	return api.OK
}

// Remint: what was going is issued again.
func (b *Book) Remint(w, to token.Who, a money.Amount) api.Errno {
	v, p, e := b.settled(w, a)
	if e != api.OK {
		return e
	}
	if !v.Fallen {
		v.Issued += a
	} else if e := p.Take(0, a); e != api.OK {
		return e
	}
	if e := b.tokens.Mint(to, a); e != api.OK {
		return e
	}
	b.pool = p
	b.put(v)
	return api.OK
}

// settled answers what a vault, and the pool, are when so much of it isn't going any more.
func (b *Book) settled(w token.Who, a money.Amount) (Vault, pool.Pool, api.Errno) {
	v, e := b.asked(w, a)
	if e != api.OK {
		return Vault{}, pool.Pool{}, e
	}
	left, e := v.Going.Sub(a)
	if e != api.OK {
		return Vault{}, pool.Pool{}, e
	}
	p := b.pool
	if v.Fallen { // it keeps collateral for what is going alone
		part, _ := v.Collateral.Part(uint64(a), uint64(v.Going), false) // at most all of it
		if e := p.Take(part, 0); e != api.OK {
			return Vault{}, pool.Pool{}, e
		}
		v.Collateral -= part
	}
	v.Going = left
	return v, p, api.OK
}

// Slash: collateral becomes free for a party.
func (b *Book) Slash(w, to token.Who, a money.Amount) (money.Amount, api.Errno) {
	v, e := b.asked(w, a)
	if e != api.OK {
		return 0, e
	}
	taken := min(a, v.Collateral)
	if v.Collateral, e = b.free(to, taken, v.Collateral); e != api.OK {
		return 0, e
	}
	b.put(v)
	return taken, api.OK
}

// Leave: Leaving grows.
func (b *Book) Leave(w token.Who, a money.Amount) api.Errno {
	v, e := standing(b.asked(w, a))
	if e != api.OK {
		return e
	}
	if v.Issued-v.Leaving < a {
		return api.ErrFew
	}
	v.Leaving += a
	b.put(v)
	return api.OK
}

// Stay: Leaving shrinks.
func (b *Book) Stay(w token.Who, a money.Amount) api.Errno {
	v, e := standing(b.asked(w, a))
	if e != api.OK {
		return e
	}
	if v.Leaving, e = v.Leaving.Sub(a); e != api.OK {
		return e
	}
	b.put(v)
	return api.OK
}

// Hand: what is leaving is another one's.
func (b *Book) Hand(from, to token.Who, a money.Amount) api.Errno {
	one, e := standing(b.asked(from, a))
	if e != api.OK {
		return e
	}
	other, e := standing(b.asked(to, a))
	if e != api.OK {
		return e
	}
	if from == to {
		return api.ErrSame
	}
	if one.Leaving < a || other.Coming < a {
		return api.ErrFew
	}
	one.Leaving -= a
	one.Issued -= a
	other.Coming -= a
	other.Issued += a
	b.put(one)
	b.put(other)
	return api.OK
}

// Fall: a vault has fallen.
func (b *Book) Fall(w token.Who) api.Errno {
	v, e := standing(b.vault(w))
	if e != api.OK {
		return e
	}
	// By nothing issued or going one can't divide: then it keeps nothing. Else it keeps at most all.
	keeps, _ := v.Collateral.Part(uint64(v.Going), uint64(v.Issued+v.Going), true)
	if e := b.pool.Take(v.Collateral-keeps, v.Issued); e != api.OK {
		return e
	}
	v.Collateral, v.Issued, v.Leaving, v.Fallen = keeps, 0, 0, true
	b.put(v)
	return api.OK
}

// Redeem: a party burns tokens of the pool.
func (b *Book) Redeem(w token.Who, a money.Amount) (money.Amount, api.Errno) {
	if b == nil || !some(a) {
		return 0, api.ErrArg
	}
	if b.tokens.Of(w) < a {
		return 0, api.ErrFew
	}
	p := b.pool
	share, e := p.Burn(a)
	if e != api.OK {
		return 0, e
	}
	if e := b.purse.Free(w, share); e != api.OK {
		return 0, e
	}
	b.tokens.Burn(w, a) // it has as many
	b.pool = p
	return share, api.OK
}

// Deposit: what is free is held for a request.
func (b *Book) Deposit(w token.Who, a money.Amount) api.Errno {
	if b == nil || !some(a) {
		return api.ErrArg
	}
	more, e := b.hold(w, a, b.deposits)
	if e != api.OK {
		return e
	}
	b.deposits = more
	return api.OK
}

// Return: what is held for requests is free.
func (b *Book) Return(w token.Who, a money.Amount) api.Errno {
	if b == nil || !some(a) {
		return api.ErrArg
	}
	left, e := b.free(w, a, b.deposits)
	if e != api.OK {
		return e
	}
	b.deposits = left
	return api.OK
}
