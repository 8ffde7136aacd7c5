"""What a rule says for given values of the variables of its body."""

from everytarget.values import fact_of, frontier, made, made_variables, variables_of


def facts_of_atoms(atoms, values):
    """The facts of the atoms for these values of their variables."""
    binding = dict(zip(variables_of(atoms), values))
    return [fact_of(atom, binding) for atom in atoms]


def facts_of_head(number, rule, values):
    """The facts of the head of the make rule with this number, with the unknowns that it makes."""
    binding = dict(zip(variables_of(rule[1]), values))
    shared = [binding[name] for name in frontier(rule)]
    for name in made_variables(rule):
        binding[name] = made(number, name, shared)
    return [fact_of(atom, binding) for atom in rule[2]]


def sides(rule, values):
    """The values of left and right of a same rule."""
    binding = dict(zip(variables_of(rule[1]), values))
    return binding[rule[2]], binding[rule[3]]
