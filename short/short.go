// Package short tells which names tenants and archives may have (DOC.md, Words).
package short

import (
	"strings"

	"haversack/api"
)

const letters = "abcdefghijklmnopqrstuvwxyz0123456789-"

// Name tells whether s is a short name.
func Name(s string) bool {
	return s != "" && len(s) <= api.MaxShort && strings.Trim(s, letters) == ""
}
