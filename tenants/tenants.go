// Package tenants knows tenants by their credentials. Its reader gives up by
// panic, as those of package words do.
package tenants

import (
	"strings"

	"turnpike/api"
	"turnpike/words"
)

// Tenant is one that may come, and what it says to be known.
type Tenant struct {
	Name, Credentials string
}

// List is tenants, no name twice.
type List []Tenant

// With reads a user, and puts it behind the list.
func (l List) With(user api.User) List {
	tenant := read(user)
	for _, other := range l {
		words.Must(other.Name != tenant.Name, "a tenant that no user ahead has")
	}
	return append(l, tenant)
}

// By gives the tenant whose credentials these are, and whether there is one.
func (l List) By(credentials string) (name string, found bool) {
	for _, tenant := range l {
		if tenant.Credentials == credentials {
			return tenant.Name, true
		}
	}
	return "", false
}

func read(user api.User) Tenant {
	name, secret := words.Tenant(user.Name), user.Secret
	words.Must(1 <= len(secret) && len(secret) <= api.MaxWord, "a secret of 1 to 12 bytes")
	words.Must(words.All(secret, words.IsSeen), "a secret of bytes from 33 to 126")
	// A copy of the name, as what is handed in is not kept.
	return Tenant{Name: strings.Clone(name), Credentials: "Basic " + base64(name+":"+secret)}
}
