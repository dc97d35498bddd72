// Package tenants tells which lists of tenants may be: those of which books are made (P16.3 and P17.1).
package tenants

import (
	"slices"

	"haversack/api"
	"haversack/short"
)

// Check tells what is wrong with a list of tenants.
func Check(l []api.Tenant) api.Errno {
	if len(l) > api.MaxTenants {
		return api.ErrLong
	}
	for i, t := range l {
		if !mayBe(t) || named(l[:i], t.Name) {
			return api.ErrArg
		}
	}
	return api.OK
}

func mayBe(t api.Tenant) bool {
	return short.Name(t.Name) && len(t.Secret) <= api.MaxKey && isShare(t.Bytes) && isShare(t.Entries)
}

func isShare(n int) bool { return n >= 0 && n <= api.MaxTime }

func named(l []api.Tenant, name string) bool {
	return slices.ContainsFunc(l, func(t api.Tenant) bool { return t.Name == name })
}
