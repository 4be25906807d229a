package msg

import (
	"trunkline/api"
)

const maxRoute = api.MaxAvps - 8 // RouteRecords, so that there is room for the other AVPs

// Base returns the rules for a request of a command, or none if there is no such command.
func Base(code uint32) []api.Rule {
	origin := []api.Rule{
		identity(api.OriginHost, 1, 1),
		identity(api.OriginRealm, 1, 1),
		{Code: api.OriginState, Type: api.Unsigned32, Must: true, Most: 1},
	}
	switch code {
	case api.CmdHello, api.CmdWatch, api.CmdLeave:
		return origin
	case api.CmdWork:
		return append(origin,
			identity(api.DestRealm, 1, 1),
			identity(api.DestHost, 0, 1),
			identity(api.RouteRecord, 0, maxRoute),
			api.Rule{Code: api.Payload, Type: api.Octets, Must: true, Least: 1, Most: 1},
		)
	}
	return nil
}

// identity returns the rule of an attribute that names a host or a realm.
func identity(code uint32, least, most int) api.Rule {
	return api.Rule{Code: code, Type: api.Identity, Must: true, Least: least, Most: most}
}
